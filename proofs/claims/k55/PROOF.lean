import PyProof.Rows.All
import Wide.All
import OpenK.AllK
import Wide.FinOn
import Lean
import PyProof.EqAt
import PyProof.EqKinds
import PyProof.TupleCall
import KE.KRevIter
import PyProof.EnumMake
import PyProof.EnumFor
import PyProof.ListRange
import PyProof.Rows.Range3
import PyProof.ZipIter
import PyProof.SumWalk
import PyProof.WalksMore
import PyProof.Rows.SetFrom
import PyProof.SetRoads
import PyProof.Rows.SortRunsK
import PyProof.Rows.SortWalk
import KE.KSortTup
import PyProof.Rows.Own
import PyProof.StationsW
import OpenK.KRaise
import KE.KIsAll
import PyProof.ExcArgsOwn
import PyProof.RulesAs
import PyProof.Ns1
import PyProof.Rows.Catch
import OpenK.KOwn
import PyProof.ExcBaseAll.ValueError
import KE.KDictSum
import PyProof.AttrMiss
import PyProof.IsiH_list
import KE.KDictOf
import PyProof.DictList
import KE.KDictList
import PyProof.FactsAll.set
import PyProof.Rows.TupAdd
import KE.KDictMeth
import PyProof.DictWalks
import PyProof.TupleKey
import PyProof.DictStraight
import PyProof.IsRules
import KE.KRevSl
import PyProof.Rows.CallKwBuiltin
import PyProof.Rows.SortShell
import KE.KSortKey
import KE.KLam
import KE.KNestM
import PyProof.CallStr
import OpenK.KMake
import PyProof.ExcClass2
import PyProof.InstStoreFacts
import OpenK.KCls
import PyProof.DictRoadsH
import PyProof.DictUpdate
import PyProof.DictCopy
import PyProof.MeetsDictList
import PyProof.FactsAll.tuple_1
import PyProof.TupleOfSeq
import KE.KSortAsk
import PyProof.Rows.StrLawsPart
import PyProof.StrLawsChain
import PyProof.StrBlockL
import PyProof.SliceStr2
import PyProof.StrOps2
import PyProof.StrWalks
import PyProof.StrCalls2
import KE.KIntText
import KE.IntTextLaws
import PyProof.Rows.FStrParts
import PyProof.Rows.StrIntSpec
import PySem.Challenge.RW_sinceply_k55_records_written
open Array renaming length_toList→LC
open Bool renaming not_false→JC,not_true→JE,and_eq_true→JY,false_ne_true→J1,eq_iff_iff→Lz,or_eq_true→L3
open Classical renaming choose_spec→Lv
open False renaming elim→J7
open ForInStep renaming yield→Ku
open Int renaming toNat_natCast→Ky,le_trans→LA
open List renaming replicate→gc,length_cons→gp,getElem?_cons_succ→gV,getElem?_cons_zero→Dk,map_cons→Ds,nil_append→Jt,length_nil→Ju,set_cons_zero→Jv,set_cons_succ→Jw,getElem?_nil→Jx,cons_append→Jy,getElem?_set_ne→Jz,map_nil→JG,getElem?_eq_some_iff→JH,set_nil→JI,mem_cons_self→JJ,mem_cons_of_mem→JK,length_map→JM,length_append→JO,getElem?_append_left→JQ,size_toArray→JR,getElem?_map→JT,mem_cons→JV,getElem?_eq_getElem→JX,all_eq_true→JZ,getElem?_set_self→J3,getElem?_append_right→J5,mem_append_right→J6,range→Ka,length_set→Kc,mem_singleton→Kd,append_nil→Ke,lookup_cons→Kf,getD_eq_getElem?_getD→Kg,getElem?_replicate→Km,replicate_succ→Kn,map_map→Kr,mem_append→Ks,mem_map→Kw,length_take→KA,length_drop→KC,mem_of_getElem?→KD,flatten_cons→KH,append_assoc→KI,drop_eq_getElem_cons→KP,filterMap_cons→KS,length_reverse→KU,filter_cons_of_pos→KW,filter_cons_of_neg→KY,getElem?_set→K1,length_replicate→K3,set_append_right→K5,mem_append_left→K7,not_mem_nil→K8,getElem?_range→K9,map_congr_left→La,filter_eq_self→Lb,mem_filter→Lc,of_mem_zip→Ld,isPrefixOf→Le,getElem?_take_of_lt→Lg,eq_of_mem_replicate→Li,length_range→Lm,range_succ_eq_map→Lo,sum_cons→Lp,length_singleton→Lr,getElem?_eq_none→Ls,getElem?_reverse→Lu,nodup_cons→Lw,forIn_cons→Ly,map_append→LB,mem_range→LF,mem_filterMap→LI,getElem?_drop→LK,zip_cons_cons→LM,pairwise_cons→LN,all_cons→LP,reverse_cons→LS,drop_length→LY,foldl_cons→L0,nodup_nil→Mb,drop_drop→Mc,take_left→Me,all_map→Mh,map_id→Mi,foldl→Mk
open Nat renaming reduceAdd→JD,zero_add→JF,le_refl→JL,lt_of_lt_of_le→JS,le_trans→JU,zero_le→J8,ne_of_lt→J9,lt_irrefl→Ko,le_of_ble_eq_true→Kv,ne_of_gt→KR,not_lt→Lx,le_of_lt→LX,log2_lt→L5,le_succ→L6,add_comm→Mg
open Ne renaming symm→Kl
open Option renaming map_some→JA,map_none→JB
open PyProof.Rows renaming callWith_type1→J2
open PySem.Builtin.List renaming listExtendWith→KN,listTooLong→Lh
open PySem.Builtin.Range renaming rangeSize→KJ
open PySem.Builtin.Str renaming occurrences→KL
open PySem.Calls renaming spliced_nil→K0
open PySem.Data renaming cell→LH,fields→L4
open PySem.F renaming slot_str_split→Lq,args_str_split_2→LL,entry_str_split→LV
open PySem.Heap renaming get?_push_of_some→JN,lt_size→JP,get?_push_size→J0,get?_update_other→Ln,size_push→Ma
open PySem.NameKind renaming cell→Mf
open PySem.NumText renaming digitsVal→Ll
open PySem.Obj renaming mapSeq→Lk
open PySem.PassesOwn renaming never→Kz
open PySem.PyData renaming eqv→Kq,depthAll→KG,showable→KZ,hasDict→K4,showableAll→LJ,eqvAll→LO,canLayAll0→LR,hasDictAll→LU
open PySem.Value renaming ref→K6,str→Lf,type→Lj,bool→Mj,int→Ml
open PySem.W renaming Frag→Js,nsIn→J4,fnOf→Kh,kia_one→Kp,keepIn→KQ,codeIn→LG,methodObj→LQ,instObj→LZ,OpenLaw→L1,lookIn→L7,kitOne→L8
open Sum renaming inl→K2,inr→LD
open True renaming intro→LW
noncomputable section
set_option Elab.async false
set_option linter.all false

set_option maxRecDepth 100000
local macro_rules|`(tactic|trivial)=>`(tactic|first|exact Or.inl rfl|exact Or.inr rfl|exact Or.inr (Or.inl rfl)|exact Or.inr (Or.inr rfl)|assumption)
local macro_rules|`(tactic|and_intros)=>`(tactic|dsimp only[List.map,List.replicate,List.cons_append,List.nil_append])
namespace L2
open PySem PySem.Spec PyProof.Rows
section
variable{a b:Addr}{o:HO}{H:Hp}
noncomputable abbrev Key:=Sum Int Str
noncomputable def Bs:Key->Value->Bool
 |.inl k,v=>Value.isInt k v
 |.inr x,v=>Value.isStrOf x v
noncomputable def HW(w:World):Key->Int
 |.inl k=>hashInt k
 |.inr x=>hashStr w x
theorem bL:∀{k:Key} {v:Value},Bs k v=true->(∃i t,k=K2 i/\v=Ml i t)\/(∃x t,k=LD x/\v=Lf x t)
 |.inl i,v,h=>by obtain⟨t,e⟩:=Value.isInt_shape (k:=i) (v:=v) h;exact .inl ⟨i,t,rfl,e⟩
 |.inr x,v,h=>by obtain⟨t,e⟩:=Value.isStrOf_shape (x:=x) (v:=v) h;exact .inr ⟨x,t,rfl,e⟩
theorem Cg(a b:Int):decide ((K2 a:Key)=K2 b)=(a == b):=by
 by_cases e:a=b
 ·subst e;simp
 ·have h:¬(K2 a:Key)=K2 b:=fun q=>e (K2.inj q);rw[decide_eq_false h];exact(beq_eq_false_iff_ne.mpr e).symm
theorem Ci(a b:Str):decide ((LD a:Key)=LD b)=decide (a=b):=by
 by_cases e:a=b
 ·subst e;simp
 ·have h:¬(LD a:Key)=LD b:=fun q=>e (LD.inj q);rw[decide_eq_false h,decide_eq_false e]
theorem Cj(a:Int)(b:Str):decide ((K2 a:Key)=LD b)=false:=decide_eq_false (fun q=>nomatch q)
theorem Ck(a:Str)(b:Int):decide ((LD a:Key)=K2 b)=false:=decide_eq_false (fun q=>nomatch q)
noncomputable def jE(prog:Program)(w:World):PySem.KeyKind prog w Key where
 is:=Bs
 hash:=HW w
 inj:=fun v a b ha hb=>by
  rcases bL ha with⟨i,t,rfl,rfl⟩ | ⟨x,t,rfl,rfl⟩
  ·rcases bL hb with⟨j,u,rfl,e⟩ | ⟨y,u,rfl,e⟩
   ·injection e with e1 _;rw[e1]
   ·exact nomatch e
  ·rcases bL hb with⟨j,u,rfl,e⟩ | ⟨y,u,rfl,e⟩
   ·exact nomatch e
   ·injection e with e1 _;rw[e1]
 byValue:=fun k v h=>by rcases bL h with⟨i,t,rfl,rfl⟩ | ⟨x,t,rfl,rfl⟩<;>rfl
 pyHash:=fun hv h=>by
  rcases bL hv with⟨i,t,rfl,rfl⟩ | ⟨x,t,rfl,rfl⟩
  ·exact wpAny_pyHash_int h
  ·exact wpAny_pyHash_str h
 eqBool:=fun hu hv h=>by
  rcases bL hu with⟨i,t,rfl,rfl⟩ | ⟨x,t,rfl,rfl⟩
  ·rcases bL hv with⟨j,u,rfl,rfl⟩ | ⟨y,u,rfl,rfl⟩
   ·rw[Cg]at h;exact wpAny_eqBool_int h
   ·rw[Cj]at h;exact SeqAt.EqAt.int_str i t y u _ _ _ _ h
  ·rcases bL hv with⟨j,u,rfl,rfl⟩ | ⟨y,u,rfl,rfl⟩
   ·rw[Ck]at h;exact SeqAt.EqAt.str_int x t j u _ _ _ _ h
   ·rw[Ci]at h;exact wpAny_eqBool_str h
 «strs»:=fun k x t v h=>by
  rcases bL h with⟨i,u,rfl,e⟩ | ⟨y,u,rfl,e⟩
  ·exact nomatch e
  ·injection e with e1 _
   subst e1;cases v<;>rfl
inductive V where
 |non | bl (b:Bool) | int (i:Int) | str (x:Str) | byt (b:Array UInt8) | flt (b:UInt64) | ref (a:Addr) | ty (n:String)
 deriving DecidableEq
def RelV:V->Value->Prop
 |.non,u=>u=Value.none
 |.bl b,u=>u=Mj b
 |.int i,u=>∃t,u=Ml i t
 |.str x,u=>∃t,u=Lf x t
 |.byt b,u=>∃t,u=Value.bytes b t
 |.flt b,u=>∃t,u=Value.float b t
 |.ref a,u=>u=K6 a
 |.ty n,u=>u=Lj n
noncomputable abbrev Vals:List V->List Value->Prop:=Paired RelV
theorem Vals.length{xs:List V}{us:List Value}(r:Vals xs us):xs.length=us.length:=Paired.length r
theorem Vals.get:∀{xs:List V} {us:List Value} {i:Nat} {x:V},Vals xs us->xs[i]?=some x->∃u,us[i]?=some u/\RelV x u
 |_,_,_,_,.nil,e=>by simp at e
 |_,_,0,_,.cons r _,e=>by simp at e;subst e;exact⟨_,rfl,r⟩
 |_,_,i+1,x,.cons _ t,e=>by obtain⟨u,h1,h2⟩:=Vals.get (i:=i) (x:=x) t (by simpa using e);exact⟨u,by simpa using h1,h2⟩
theorem Vals.set{x:V}{u:Value}(r:RelV x u):∀{xs:List V} {us:List Value} (i:Nat),Vals xs us->Vals (xs.set i x) (us.set i u)
 |_,_,_,.nil=>.nil
 |_,_,0,.cons _ t=>.cons r t
 |_,_,i+1,.cons q t=>.cons q (Vals.set r i t)
theorem Vals.append:∀{xs ys:List V} {us ws:List Value},Vals xs us->Vals ys ws->Vals (xs++ys) (us++ws)
 |_,_,_,_,.nil,s=>s
 |_,_,_,_,.cons r t,s=>.cons r (Vals.append t s)
theorem Vals.take:∀{xs:List V} {us:List Value} (n:Nat),Vals xs us->Vals (xs.take n) (us.take n)
 |_,_,0,_=>.nil
 |_,_,_+1,.nil=>.nil
 |_,_,n+1,.cons r t=>.cons r (Vals.take n t)
theorem Vals.drop:∀{xs:List V} {us:List Value} (n:Nat),Vals xs us->Vals (xs.drop n) (us.drop n)
 |_,_,0,r=>r
 |_,_,_+1,.nil=>.nil
 |_,_,n+1,.cons _ t=>Vals.drop n t
def Cm:Option V->Option Value->Prop
 |some v,some u=>RelV v u
 |none,none=>True
 |_,_=>False
def KV{κ:Type}:List (κ×V)->List (κ×Value)->Prop:=Paired fun(p:κ×V) (q:κ×Value)=>p.1=q.1/\RelV p.2 q.2
noncomputable def kV:Key->V
 |.inl i=>.int i
 |.inr x=>.str x
inductive HO where
 |lst (xs:List V)
 |tup (xs:List V)
 |dK (kvs:List (Key×V)) | dT (kvs:List (List Key×V)) (ts:List Addr)
 |set (S:Int->Bool) (n:Nat)
 |ins (C dx:Addr) (fs:List (Str×V))
 |own (x:Addr)
 |xd (fs:List (Str×V))
 |met (f x:Addr)
 |rng (lo hi:Int)
 |frz (o:Obj) (u:HO)
 |tbl (ln cl:Value) (q:Str)
 |ext (φ:Heap->Prop)
noncomputable abbrev Hp:=Addr->Option HO
noncomputable def upd(H:Hp)(a:Addr)(o:HO):Hp:=fun b=>if b=a then some o else H b
theorem aV{a:Addr}:upd H a o a=some o:=by unfold upd;rw[if_pos rfl]
theorem aK(h:b≠a):upd H a o b=H b:=by unfold upd;rw[if_neg h]
theorem aM(h:H a=some o)(h':H b=none):a≠b:=by intro e;subst e;rw[h]at h';cases h'
end
section
variable(P:Program)(w:World)
def bX(H:Hp)(h:Heap)(a:Addr):HO->Prop
 |.lst xs=>xs.length<=sizeLine/\∃(its:List Value) (n:Nat),Vals xs its/\h.get? a=some { cls:=.type "list",data:=.seq its.toArray n }
 |.tup xs=>xs.length<=sizeLine/\∃its:List Value,Vals xs its/\IsTup h a its.toArray
 |.dK kvs=>kvs.length<=sizeLine/\(a == sysModules)=false/\∃vs,KV kvs vs/\h.DictOf (jE P w) a vs
 |.dT kvs ts=>kvs.length<=sizeLine/\(a == sysModules)=false/\∃xs:List (List Key×Addr×Value),
   Paired (fun(p:List Key×V) (q:List Key×Addr×Value)=>p.1=q.1/\H q.2.1=some (.tup (p.1.map kV))/\RelV p.2 q.2.2) kvs xs /\
   ∃o es ep,h.get? a=some o/\o.ExactDict/\o.data=.dict es ep/\es.toList=xs.map (entryOfKey (tupleKind (jE P w)))/\(xs.map (·.1)).Nodup/\xs.map (·.2.1)=ts
 |.set S n=>h.SetOf (intKind P w) a S n
 |.ins C dx fs=>H dx=some (.own a)/\fs.length<=1000/\dx≠a/\h.get? a=some (LZ C dx) /\
   ∃mA,h.Ns1 dx mA/\(∀f,Cm (fs.lookup f) (mA f))/\PySem.Within mA (fs.map (·.1))
 |.own _=>∃o,h.get? a=some o
 |.xd fs=>∃mA,h.Ns1 a mA/\∀f,Cm (fs.lookup f) (mA f)
 |.rng lo hi=>∃t u v,h.get? a=some { cls:=.type "range",data:=.fields #[.int lo t,.int hi u,.int 1 v] }
 |.frz o u=>h.get? a=some o/\bX H h a u
 |.tbl ln cl q=>∃ps:Array Value,h.get? a=some { cls:=.none,data:=.fields ps }/\(ps=#[]\/∃(c:Addr) (oc:Obj) (vs:Array Value) (t:Tok),ps=#[ln,cl,.ref c]/\H c=some (.frz oc (.own a))/\oc.data=.fields vs/\vs[1]?=some (.str q t))
 |.met f x=>h.get? a=some (LQ (.ref f) (.ref x))
 |.ext φ=>φ h/\(∃o,h.get? a=some o)/\∀h1 h2:Heap,φ h1->(∀o,h1.get? a=some o->h2.get? a=some o)->φ h2
def HOk(H:Hp)(h:Heap):Prop:=∀a o,H a=some o->bX P w H h a o
end
section
variable{P:Program}{w:World}{H H':Hp}{h h':Heap}{a:Addr}{o:HO}
theorem bX.lt(x:bX P w H h a o):a<h.objs.size:=by
 cases o with
 |lst xs=>obtain⟨_,_,_,_,e⟩:=x;exact JP e
 |tup xs=>obtain⟨_,_,_,p⟩:=x;exact p.lt
 |dK kvs=>obtain⟨_,_,_,_,o,_,_,e,_⟩:=x;exact JP e
 |dT kvs ts=>obtain⟨_,_,_,_,o,_,_,e,_⟩:=x;exact JP e
 |set S n=>obtain⟨o,_,_,_,e,_⟩:=x;exact JP e
 |ins C dx fs=>obtain⟨_,_,_,e,_⟩:=x;exact JP e
 |own y=>obtain⟨_,e⟩:=x;exact JP e
 |xd fs=>obtain⟨_,⟨_,_,_,e,_⟩,_⟩:=x;exact JP e
 |rng lo hi=>obtain⟨_,_,_,e⟩:=x;exact JP e
 |frz ob u=>obtain⟨e,_⟩:=x;exact JP e
 |tbl ln cl q=>obtain⟨_,e,_⟩:=x;exact JP e
 |met f y=>exact JP (show h.get? a=some _ from x)
 |ext φ=>obtain⟨_,⟨_,e⟩,_⟩:=x;exact JP e
theorem Paired.E5{α β:Type}{F G:α->β->Prop}:∀{l₁:List α} {l₂:List β},Paired F l₁ l₂->(∀a b,F a b->G a b)->Paired G l₁ l₂
 |_,_,.nil,_=>.nil
 |_,_,.cons r t,f=>.cons (f _ _ r) (Paired.E5 t f)
theorem bX.stay(x:bX P w H h a o)(k:∀b u,(b=a\/H b=some (.own a))->h.get? b=some u->h'.get? b=some u)
  (ho:∀b,H b=some (.own a)->H' b=some (.own a)) (hf:∀b o c,H b=some (.frz o (.own c))->H' b=some (.frz o (.own c))) (ht:∀b xs,H b=some (.tup xs)->H' b=some (.tup xs)):bX P w H' h' a o:=by
 induction o with
 |lst xs=>obtain⟨z,its,n,r,e⟩:=x;exact⟨z,its,n,r,k _ _ (.inl rfl) e⟩
 |tup xs=>obtain⟨z,its,r,ob,e,c⟩:=x;exact⟨z,its,r,ob,k _ _ (.inl rfl) e,c⟩
 |dK kvs=>obtain⟨z,y,vs,r,ob,es,ep,e,c⟩:=x;exact⟨z,y,vs,r,ob,es,ep,k _ _ (.inl rfl) e,c⟩
 |dT kvs ts=>obtain⟨z,y,xs,r,ob,es,ep,e,c⟩:=x;exact⟨z,y,xs,Paired.E5 r fun p q z=>⟨z.1,ht _ _ z.2.1,z.2.2⟩,ob,es,ep,k _ _ (.inl rfl) e,c⟩
 |set S n=>obtain⟨ob,es,ep,t,e,c⟩:=x;exact⟨ob,es,ep,t,k _ _ (.inl rfl) e,c⟩
 |ins C dx fs=>obtain⟨d,z,ne,e,mA,⟨od,es,ep,e2,c⟩,r⟩:=x;exact⟨ho _ d,z,ne,k _ _ (.inl rfl) e,mA,⟨od,es,ep,k _ _ (.inr d) e2,c⟩,r⟩
 |own y=>obtain⟨ob,e⟩:=x;exact⟨ob,k _ _ (.inl rfl) e⟩
 |xd fs=>obtain⟨mA,⟨od,es,ep,e,c⟩,r⟩:=x;exact⟨mA,⟨od,es,ep,k _ _ (.inl rfl) e,c⟩,r⟩
 |rng lo hi=>obtain⟨t,u,v,e⟩:=x;exact⟨t,u,v,k _ _ (.inl rfl) e⟩
 |frz ob u ih=>obtain⟨e,q⟩:=x;exact⟨k _ _ (.inl rfl) e,ih q⟩
 |tbl ln cl q=>
  obtain⟨ps,e,d⟩:=x;refine⟨ps,k _ _ (.inl rfl) e,?_⟩;rcases d with d | ⟨c,oc,vs,t,d,d2,d3⟩
  ·exact .inl d
  ·exact .inr ⟨c,oc,vs,t,d,hf _ _ _ d2,d3⟩
 |met f y=>have e:h.get? a=some (LQ (.ref f) (.ref y)):=x;show h'.get? a=some (LQ (.ref f) (.ref y));exact k a _ (.inl rfl) e
 |ext φ=>obtain⟨p,⟨o,e⟩,st⟩:=x;exact⟨st _ _ p fun o q=>k _ _ (.inl rfl) q,⟨o,k _ _ (.inl rfl) e⟩,st⟩
theorem HOk.lt(x:HOk P w H h)(e:H a=some o):a<h.objs.size:=(x a o e).lt
theorem HOk.fresh(x:HOk P w H h)(e:h.objs.size<=a):H a=none:=by
 cases q:H a with
 |none=>rfl
 |some u=>exact absurd (JS (x.lt q) e) (Ko _)
theorem HOk.kept(x:HOk P w H h)(k:∀b u,h.get? b=some u->h'.get? b=some u):HOk P w H h':=fun a o e=>(x a o e).stay (fun b u _ q=>k b u q) (fun _ q=>q) (fun _ _ _ q=>q) fun _ _ q=>q
theorem HOk.laid(x:HOk P w H h)(k:∀b u,h.get? b=some u->h'.get? b=some u)(hp:h.objs.size<=a)(new:bX P w (upd H a o) h' a o):HOk P w (upd H a o) h':=fun b u e=>by
 have hn:=x.fresh hp;by_cases hb:b=a
 ·subst hb;rw[aV]at e;cases e;exact new
 ·rw[aK hb]at e;exact(x b u e).stay (fun c v _ q=>k c v q) (fun c q=>by rw[aK (aM q hn)];exact q) (fun c _ _ q=>by rw[aK (aM q hn)];exact q) fun c xs q=>by rw[aK (aM q hn)];exact q
end
def Rd(H:Hp)(a:Addr)(u:HO):Prop:=H a=some u\/∃o,H a=some (.frz o u)
theorem Rd.ok{P:Program}{w:World}{H:Hp}{h:Heap}{a:Addr}{u:HO}(r:Rd H a u)(x:HOk P w H h):bX P w H h a u:=by
 rcases r with r | ⟨o,r⟩
 ·exact x a u r
 ·obtain⟨_,q⟩:=x a _ r;exact q
def Mut:Option HO->Prop
 |some (.lst _)=>True
 |some (.dK _)=>True
 |some (.dT _ _)=>True
 |some (.set _ _)=>True
 |some (.ins _ _ _)=>True
 |some (.ext _)=>True
 |_=>False
section
variable{P:Program}{w:World}{H:Hp}{h h':Heap}{x e:Addr}{o':HO}
theorem HOk.write(ok:HOk P w H h)(mu:Mut (H x))(he:e=x\/H e=some (.own x))(k:∀b u,b≠e->h.get? b=some u->h'.get? b=some u)(heo:∃u,h'.get? e=some u)
  (new:bX P w (upd H x o') h' x o'):HOk P w (upd H x o') h':=fun b u q=>by
 have E6:∀c y,H c=some (.own y)->c≠x:=fun c y r z=>by subst z;rw[r]at mu;exact mu
 have HX:∀c xs,H c=some (.tup xs)->c≠x:=fun c xs r z=>by subst z;rw[r]at mu;exact mu
 have HY:∀c o y,H c=some (.frz o y)->c≠x:=fun c o y r z=>by subst z;rw[r]at mu;exact mu
 by_cases hb:b=x
 ·subst hb;rw[aV]at q;cases q;exact new
 ·rw[aK hb]at q;by_cases hbe:b=e
  ·have q':H b=some (.own x):=by
    rcases he with z | z
    ·exact absurd (hbe.trans z) hb
    ·rw[hbe];exact z
   rw[q]at q';cases q';obtain⟨v,hv⟩:=heo;exact⟨v,by rw[hbe];exact hv⟩
  ·refine(ok b u q).stay (fun c v hc r=>k c v ?_ r) (fun c r=>by rw[aK (E6 c b r)];exact r) (fun c _ _ r=>by rw[aK (HY c _ _ r)];exact r) fun c xs r=>by rw[aK (HX c xs r)];exact r
   rcases hc with rfl | hc
   ·exact hbe
   ·rintro rfl;rcases he with z | z
    ·exact E6 c b hc z
    ·rw[hc]at z;cases z;exact hb rfl
end
structure Un(fs ex:List Addr)(H H':Hp)(h h':Heap):Prop where
 keep:∀b o,h.get? b=some o->H b=none->b∉fs->b∉ex->h'.get? b=some o
 slot:∀b o,h.get? b=some o->H b=none->b∈fs->b∉ex->∃sl,h'.get? b=some { o with slots:=sl }
 free:∀b o,h.get? b=some o->H b=none->b∉ex->H' b=none
 there:∀b o,h.get? b=some o->b∉ex->∃o',h'.get? b=some o'
 tups:∀b xs,H b=some (.tup xs)->H' b=some (.tup xs)
 mZ:∀b o u,H b=some (.frz o u)->H' b=some (.frz o u)
 ou:∀b x y z,H b=some (.tbl x y z)->H' b=some (.tbl x y z)
section
variable{fs fs' ex ex':List Addr}{H H1 H2:Hp}{h h1 h2 h':Heap}{a x e:Addr}{o:HO}
theorem Un.any(u:Un fs ex H H1 h h1){b:Addr}{ob:Obj}(q:h.get? b=some ob)(n:H b=none)(hx:b∉ex):∃sl,h1.get? b=some { ob with slots:=sl }:=by
 by_cases hb:b∈fs
 ·exact u.slot b ob q n hb hx
 ·exact⟨ob.slots,u.keep b ob q n hb hx⟩
theorem Un.kept(k:∀b u,h.get? b=some u->h'.get? b=some u):Un fs ex H H h h':=
 ⟨fun b ob q _ _ _=>k b ob q,fun b ob q _ _ _=>⟨ob.slots,k b ob q⟩,fun _ _ _ n _=>n,fun b ob q _=>⟨ob,k b ob q⟩,fun _ _ q=>q,fun _ _ _ q=>q,fun _ _ _ _ q=>q⟩
theorem Un.refl:Un fs ex H H h h:=Un.kept fun _ _ q=>q
theorem Un.laid(k:∀b u,h.get? b=some u->h'.get? b=some u)(hp:h.objs.size<=a)(hn:H a=none):Un fs ex H (upd H a o) h h' where
 keep:=fun b u q _ _ _=>k b u q
 slot:=fun b u q _ _ _=>⟨u.slots,k b u q⟩
 free:=fun b u q n _=>by rw[aK (J9 (JS (JP q) hp))];exact n
 there:=fun b u q _=>⟨u,k b u q⟩
 tups:=fun b xs q=>by rw[aK (aM q hn)];exact q
 mZ:=fun b u xs q=>by rw[aK (aM q hn)];exact q
 ou:=fun b _ _ _ q=>by rw[aK (aM q hn)];exact q
theorem Un.write(mu:Mut (H x))(he:e=x\/H e=some (.own x))(k:∀b u,b≠e->h.get? b=some u->h'.get? b=some u)(heo:∃u,h'.get? e=some u):Un fs ex H (upd H x o) h h':=by
 have hx:∀b,H b=none->b≠x:=fun b n z=>by subst z;rw[n]at mu;exact mu
 have hb:∀b,H b=none->b≠e:=fun b n z=>by
  subst z;rcases he with r | r
  ·exact hx b n r
  ·rw[n]at r;cases r
 have hm:∀b u,H b=some u->¬Mut (some u)->b≠x:=fun b u q nm z=>by subst z;rw[q]at mu;exact nm mu
 refine ⟨fun b u q n _ _=>k b u (hb b n) q,fun b u q n _ _=>⟨u.slots,k b u (hb b n) q⟩,fun b u q n _=>by rw [aK (hx b n)];exact n,fun b u q _=>?_,
  fun b xs q=>by rw[aK (hm b _ q fun z=>z)];exact q,fun b u xs q=>by rw[aK (hm b _ q fun z=>z)];exact q,fun b _ _ _ q=>by rw[aK (hm b _ q fun z=>z)];exact q⟩
 by_cases hbe:b=e
 ·subst hbe;exact heo
 ·exact⟨u,k b u hbe q⟩
end
section
variable{h:Heap}{b:Addr}{o:Obj}{H:Hp}
noncomputable def trk(h:Heap)(H:Hp):List Addr:=(Ka h.objs.size).filter fun a=>(H a).isSome
noncomputable def m5(h:Heap)(H:Hp):Heap:=PySem.W.hideAll h (trk h H)
theorem uA(h:Heap)(H:Hp):(m5 h H).objs.size=h.objs.size:=PySem.W.hideAll_size _ _
theorem vH(e:h.get? b=some o)(n:H b=none):(m5 h H).get? b=some o:=
 PySem.W.hideAll_get _ e fun hm=>by have q:(H b).isSome=true:=(Lc.mp hm).2;rw[n]at q;simp at q
theorem zw(e:(m5 h H).get? b=some o):h.get? b=some o/\H b=none:=by
 have e':h.get? b=some o:=PySem.W.of_hideAll (trk h H) e;refine⟨e',?_⟩;cases q:H b with
 |none=>rfl
 |some x=>have hm:b∈trk h H:=Lc.mpr ⟨LF.mpr (JP e'),by simp[q]⟩;have z:(m5 h H).get? b=none:=PySem.W.hideAll_none (trk h H) hm;rw[z]at e;cases e
structure Mod(K:Js)(mg:Str->Option Value)(base:Heap):Prop where
 kin:K.In base
 glob:base.Ns mainGlobals mg
 blt:∃mb,base.Ns builtinsNs mb/\∀x:Str,x ≠ "__name__" -> mb x=bootBuiltins x
 nolimit:base.NoLimit
structure Cx where
 prog:Program
 w:World
 K:Js
 mg:Str->Option Value
 base:Heap
 A:Around
 N:List Str
 s₀:Shared
 H₀:Hp
 env:Env
 outer:List Env
 stack:List Env
 ex:List Addr
 fn:Str->Bool
 calm:Bool
 pn:List (Addr×Obj)
 xe:Value->Shared->Prop
noncomputable def frs(l:List Env):List Addr:=l.filterMap (·.frame)
noncomputable abbrev Cx.fs(X:Cx):List Addr:=frs X.outer
def Vis(sc:Scope)(x:Str):Prop:=sc.names.lookup x=some .local\/sc.names.lookup x=some .cell\/sc.names.lookup x=some .free
def Loc(sc:Scope)(x:Str):Prop:=sc.names.lookup x=some .local\/sc.names.lookup x=some .cell
def Look(env:Env)(h:Heap)(m:Str->Option Value)(x:Str)(u:Value):Prop:=
 (env.kindOf x=some .local/\m x=some u)\/((env.kindOf x=some .cell\/env.kindOf x=some .free)/\∃c,env.cells.lookup x=some c/\h.IsCell c (some u))
structure Cx.Ok(X:Cx):Prop where
 mod:Mod X.K X.mg X.base
 kind:X.env.scope.kind=.function
 glob:X.env.globals=mainGlobals
 blt:X.env.builtins=builtinsNs
 above:X.s₀.heap.objs.size<=X.env.locals
 inj:∀x y c,X.env.cells.lookup x=some c->X.env.cells.lookup y=some c->x=y
 has:∀x,(X.env.kindOf x=some .cell\/X.env.kindOf x=some .free)->∃c,X.env.cells.lookup x=some c
 cab:∀x c,X.fn x=true->X.env.cells.lookup x=some c->X.s₀.heap.objs.size<=c
 hd:X.calm=true->X.A.handled=none
 frames:X.A.frames=some X.stack
 stk:X.stack=X.outer\/(X.stack=X.env::X.outer/\X.env.frame=some X.env.locals)
 exf:∀b∈X.ex,b≠X.env.locals/\∀x c,X.env.cells.lookup x=some c->c≠b
 bs:∀b o,X.base.get? b=some o->X.s₀.heap.get? b=some o/\X.H₀ b=none
 bsz:X.base.objs.size<=X.s₀.heap.objs.size
 vJ:∀b o,X.base.get? b=some o->b∉X.ex
 zx:∀b∈X.ex,b∉X.fs
 jN:X.s₀.heap.FunFrames X.base X.outer
 frf:∀b∈X.fs,X.H₀ b=none
structure Inv(X:Cx)(cM:List (Addr×Obj))(σ:List (Option V))(H:Hp)(s:Shared):Prop where
 ok:X.Ok
 os:s.os=X.s₀.os
 bare:AllBare s.gens
 base:Un X.fs X.ex X.H₀ H X.s₀.heap s.heap
 loc:∃m,s.heap.Ns X.env.locals m/\∀(i:Nat) (x:Str) (v:V),X.N[i]?=some x->σ[i]?=some (some v)->Vis X.env.scope x->∃u,RelV v u/\Look X.env s.heap m x u
 cell:∀x c,X.env.cells.lookup x=some c->∃v,s.heap.IsCell c v
 free:H X.env.locals=none
 fU:∀x c,X.env.cells.lookup x=some c->H c=none
 pin:∀p∈X.pn++cM,s.heap.get? p.1=some p.2/\H p.1=none/\p.1≠X.env.locals/\p.1∉X.fs/\∀v,p.2.data≠.cell v
 hok:HOk X.prog X.w H s.heap
 len:σ.length=X.N.length
end
section
variable{X:Cx}{cM:List (Addr×Obj)}{σ:List (Option V)}{H H':Hp}{s:Shared}{h':Heap}
section
variable{ch:List Addr}{x:Str}{u:Value}{a:Addr}{t':Nat}{i:Nat}{v:V}
theorem Cx.Ok.HZ(ok:X.Ok){b:Addr}{o:Obj}(e:X.base.get? b=some o):b∉X.fs:=fun hb=>by have:=(ok.jN.mem hb).1;rw[e]at this;cases this
theorem Inv.bs(I:Inv X cM σ H s):∀b o,X.base.get? b=some o->s.heap.get? b=some o/\H b=none:=fun b o e=>⟨I.base.keep b o (I.ok.bs b o e).1 (I.ok.bs b o e).2 (I.ok.HZ e) (I.ok.vJ b o e),I.base.free b o (I.ok.bs b o e).1 (I.ok.bs b o e).2 (I.ok.vJ b o e)⟩
theorem Inv.bk(I:Inv X cM σ H s):∀b o,X.base.get? b=some o->s.heap.get? b=some o:=fun b o e=>(I.bs b o e).1
theorem Inv.mod(I:Inv X cM σ H s):Mod X.K X.mg X.base:=I.ok.mod
theorem Inv.kIn(I:Inv X cM σ H s):X.K.In s.heap:=I.ok.mod.kin.keeps I.bk
theorem Inv.lt(I:Inv X cM σ H s):X.env.locals<s.heap.objs.size:=let ⟨_,hn,_⟩:=I.loc;hn.lt
theorem Inv.sz(I:Inv X cM σ H s):X.s₀.heap.objs.size<=s.heap.objs.size:=JU I.ok.above (LX I.lt)
theorem Inv.H_(I:Inv X cM σ H s)(h:s.heap.objs.size<=a):a∉X.fs:=fun hb=>by obtain⟨_,o,ho,_⟩:=I.ok.jN.mem hb;exact absurd (JS (JP ho) (JU I.sz h)) (Ko _)
theorem Inv.cne(I:Inv X cM σ H s):∀x c,X.env.cells.lookup x=some c->c≠X.env.locals:=fun x c e z=>by obtain⟨v,o,ho,hd⟩:=I.cell x c e;obtain⟨m,⟨o',es,ep,ho',hd',_⟩,_⟩:=I.loc;rw[z,ho']at ho;cases ho;rw[hd']at hd;cases hd
theorem Inv.jN(I:Inv X cM σ H s):s.heap.FunFrames X.base X.outer:=by
 have all:∀(l:List Env),(∀b∈frs l,b∈X.fs)->X.s₀.heap.FunFrames X.base l->s.heap.FunFrames X.base l:=by
  intro l
  induction l with
  |nil=>intro _ _;trivial
  |cons env r ih=>intro hs hl;obtain⟨hk,⟨L,o,hf,hn,ho,hd⟩,hr⟩:=hl;have hL:L∈X.fs:=hs L (by unfold frs;rw[KS,hf];exact JJ);obtain⟨sl,e⟩:=I.base.slot L o ho (I.ok.frf L hL) hL fun z=>I.ok.zx L z hL;exact⟨hk,⟨L,_,hf,hn,e,hd⟩,ih (fun b hb=>hs b (by unfold frs;rw[KS,hf];exact JK _ hb)) hr⟩
 exact all X.outer (fun _ hb=>hb) I.ok.jN
theorem Inv.stack(I:Inv X cM σ H s):s.heap.FunFrames X.base X.stack:=by
 rcases I.ok.stk with e | ⟨e,hf⟩
 ·rw[e];exact I.jN
 ·rw[e];obtain⟨m,hn,_⟩:=I.loc;refine .cons (by rw[I.ok.kind];decide) hf hn ?_ I.jN;exact Heap.get?_none_of_le (JU I.ok.bsz I.ok.above)
theorem Inv.qH(I:Inv X cM σ H s):∀b∈frs X.stack,b∈X.env.locals::X.fs:=fun b hb=>by
 rcases I.ok.stk with e | ⟨e,hf⟩
 ·rw[e]at hb;exact JK _ hb
 ·rw[e]at hb;unfold frs at hb;rw[KS,hf]at hb;exact hb
theorem Inv.sF(I:Inv X cM σ H s):∀b∈frs X.stack,H b=none:=fun b hb=>by
 rcases JV.mp (I.qH b hb) with e | hb
 ·rw[e];exact I.free
 ·obtain⟨_,o,ho,_⟩:=I.ok.jN.mem hb;exact I.base.free b o ho (I.ok.frf b hb) fun z=>I.ok.zx b z hb
theorem Inv.step{g':Array GenState}{t':Nat}{d':Drawn}{ch:List Addr}(I:Inv X cM σ H s)
  (hch:∀b∈ch,(b∈X.ex\/X.s₀.heap.objs.size<=b)/\b≠X.env.locals/\(∀x c,X.env.cells.lookup x=some c->c≠b)/\∀p∈X.pn++cM,p.1≠b)
  (keep:∀b o,b≠X.env.locals->b∉X.fs->b∉ch->s.heap.get? b=some o->H b=none->h'.get? b=some o)
  (slot:∀b o,b≠X.env.locals->b∈X.fs->b∉ch->s.heap.get? b=some o->H b=none->∃sl,h'.get? b=some { o with slots:=sl }) (free:∀b o,b∉ch->s.heap.get? b=some o->H b=none->H' b=none)
  (there:∀b o,b∉ch->s.heap.get? b=some o->∃o',h'.get? b=some o')
  (tups:∀b xs,H b=some (.tup xs)->H' b=some (.tup xs)) (mZ:∀b o u,H b=some (.frz o u)->H' b=some (.frz o u)) (ou:∀b x y z,H b=some (.tbl x y z)->H' b=some (.tbl x y z))
  (ns:∀m,s.heap.Ns X.env.locals m->h'.Ns X.env.locals m) (hok:HOk X.prog X.w H' h') (hg:AllBare g') :
  Inv X cM σ H' { s with heap:=h',gens:=g',drawn:=d',toks:=t' }:=by
 have neL:∀b o,X.s₀.heap.get? b=some o->b≠X.env.locals:=fun b o e=>J9 (JS (JP e) I.ok.above);have neC:∀b o,X.s₀.heap.get? b=some o->b∉X.ex->b∉ch:=fun b o e hx hb=>by
  rcases (hch b hb).1 with z | z
  ·exact hx z
  ·exact absurd (JS (JP e) z) (Ko _)
 have cellK:∀x c,X.env.cells.lookup x=some c->∀v,s.heap.IsCell c v->h'.IsCell c v:=fun x c e v ⟨o,ho,hd⟩=>by
  have nch:c∉ch:=fun z=>(hch c z).2.2.1 x c e rfl;by_cases hc:c∈X.fs
  ·obtain⟨sl,q⟩:=slot c o (I.cne x c e) hc nch ho (I.fU x c e);exact⟨_,q,hd⟩
  ·exact⟨o,keep c o (I.cne x c e) hc nch ho (I.fU x c e),hd⟩
 refine⟨I.ok,I.os,hg,⟨fun b o e n hb hx=>?_,fun b o e n hb hx=>?_,fun b o e n hx=>?_,fun b o e hx=>?_,fun b xs e=>tups b xs (I.base.tups b xs e),fun b o xs e=>mZ b o xs (I.base.mZ b o xs e),fun b x y z e=>?_⟩,?_,fun x c e=>?_,?_,fun x c e=>?_,fun p hp=>?_,hok,I.len⟩
 ·exact keep b o (neL b o e) hb (neC b o e hx) (I.base.keep b o e n hb hx) (I.base.free b o e n hx)
 ·obtain⟨sl,e1⟩:=I.base.slot b o e n hb hx;obtain⟨sl',e2⟩:=slot b _ (neL b o e) hb (neC b o e hx) e1 (I.base.free b o e n hx);exact⟨sl',e2⟩
 ·obtain⟨o',e1⟩:=I.base.there b o e hx;exact free b o' (neC b o e hx) e1 (I.base.free b o e n hx)
 ·obtain⟨o',e1⟩:=I.base.there b o e hx;exact there b o' (neC b o e hx) e1
 ·exact ou _ _ _ _ (I.base.ou _ _ _ _ e)
 ·obtain⟨m,hn,hl⟩:=I.loc;refine⟨m,ns m hn,fun i x v e1 e2 e3=>?_⟩;obtain⟨u,r,l⟩:=hl i x v e1 e2 e3;refine⟨u,r,?_⟩;rcases l with l | ⟨k,c,e,z⟩
  ·exact .inl l
  ·exact .inr ⟨k,c,e,cellK x c e _ z⟩
 ·obtain⟨v,z⟩:=I.cell x c e;exact⟨v,cellK x c e v z⟩
 ·obtain⟨m,⟨o,_,_,ho,_⟩,_⟩:=I.loc;exact free _ o (fun z=>(hch _ z).2.1 rfl) ho I.free
 ·obtain⟨v,o,ho,hd⟩:=I.cell x c e;exact free c o (fun z=>(hch c z).2.2.1 x c e rfl) ho (I.fU x c e)
 ·obtain⟨e,n,ne,nf,d⟩:=I.pin p hp;have nch:p.1∉ch:=fun z=>(hch p.1 z).2.2.2 p hp rfl;exact⟨keep p.1 p.2 ne nf nch e n,free p.1 p.2 nch e n,ne,nf,d⟩
theorem Inv.un(I:Inv X cM σ H s)(u:Un X.fs [] H H' s.heap h')(hok:HOk X.prog X.w H' h'):Inv X cM σ H' { s with heap:=h',toks:=t' }:=by
 obtain⟨m,⟨o,es,ep,ho,r⟩,_⟩:=id I.loc;obtain⟨sl,hL⟩:=u.any ho I.free (by simp);exact I.step (g':=s.gens) (d':=s.drawn) (ch:=[]) (fun _ z=>nomatch z) (fun b o _ hb _ e n=>u.keep b o e n hb (by simp)) (fun b o _ hb _ e n=>u.slot b o e n hb (by simp)) (fun b o _ e n=>u.free b o e n (by simp)) (fun b o _ e=>u.there b o e (by simp)) u.tups u.mZ u.ou (fun m' hm=>by obtain⟨o',es',ep',ho',r'⟩:=hm;rw[ho]at ho';cases ho';exact⟨_,es',ep',hL,r'⟩) hok I.bare
theorem Inv.call{g':Array GenState}{t':Nat}{d':Drawn}(I:Inv X cM σ H s)(u:Un (frs X.stack) ch H H' s.heap h')(hok:HOk X.prog X.w H' h')(hg:AllBare g')
  (hch:∀b∈ch,(b∈X.ex\/X.s₀.heap.objs.size<=b)/\b≠X.env.locals/\(∀x c,X.env.cells.lookup x=some c->c≠b)/\∀p∈X.pn++cM,p.1≠b) :
  Inv X cM σ H' { s with heap:=h',gens:=g',drawn:=d',toks:=t' }:=by
 obtain⟨m,⟨o,es,ep,ho,r⟩,_⟩:=id I.loc;obtain⟨sl,hL⟩:=u.any ho I.free fun z=>(hch _ z).2.1 rfl;exact I.step (ch:=ch) hch (fun b o hL hb hc e n=>u.keep b o e n (fun z=>(JV.mp (I.qH b z)).elim hL hb) hc) (fun b o _ _ hc e n=>u.any e n hc) (fun b o hc e n=>u.free b o e n hc) (fun b o hc e=>u.there b o e hc) u.tups u.mZ u.ou (fun m' hm=>by obtain⟨o',es',ep',ho',r'⟩:=hm;rw[ho]at ho';cases ho';exact⟨_,es',ep',hL,r'⟩) hok hg
theorem Inv.turned{t':Nat}{it:Addr}(I:Inv X cM σ H s)(k:∀b o,b≠it->s.heap.get? b=some o->h'.get? b=some o)(hn:H it=none)(hL:it≠X.env.locals)
  (h1:it∈X.ex\/X.s₀.heap.objs.size<=it) (h2:∀x c,X.env.cells.lookup x=some c->c≠it) (h3:∀p∈X.pn++cM,p.1≠it):Inv X cM σ H { s with heap:=h',toks:=t' }:=by
 have nit:∀b u,H b=some u->b≠it:=fun b u e z=>by rw[z,hn]at e;cases e
 refine I.step (g':=s.gens) (d':=s.drawn) (ch:=[it]) (fun b hb=>?_) (fun b o _ _ hc e _=>k b o (fun z=>hc (by simp[z])) e) (fun b o _ _ hc e _=>⟨o.slots,k b o (fun z=>hc (by simp[z])) e⟩) (fun _ _ _ _ n=>n)
  (fun b o hc e=>⟨o,k b o (fun z=>hc (by simp[z])) e⟩) (fun _ _ e=>e) (fun _ _ _ e=>e) (fun _ _ _ _ e=>e) (fun m hm=>?_) (fun b u e=>?_) I.bare
 ·have e:b=it:=by simpa using hb
  subst e;exact⟨h1,hL,h2,h3⟩
 ·obtain⟨o,es,ep,ho,r⟩:=hm;exact⟨o,es,ep,k _ o (Kl hL) ho,r⟩
 ·refine(I.hok b u e).stay (fun c v hc q=>k c v ?_ q) (fun _ q=>q) (fun _ _ _ q=>q) fun _ _ q=>q;rcases hc with z | z
  ·rw[z];exact nit b u e
  ·exact nit c _ z
theorem Inv.tok(I:Inv X cM σ H s)(t:Nat):Inv X cM σ H { s with toks:=t }:=I.un (h':=s.heap) (t':=t) Un.refl I.hok
theorem Inv.kept(I:Inv X cM σ H s)(k:∀b u,s.heap.get? b=some u->h'.get? b=some u):Inv X cM σ H { s with heap:=h',toks:=t' }:=I.un (Un.kept k) (I.hok.kept k)
theorem Inv.laid{o:HO}{t':Nat}(I:Inv X cM σ H s)(k:∀b u,s.heap.get? b=some u->h'.get? b=some u)(hp:s.heap.objs.size<=a)(new:bX X.prog X.w (upd H a o) h' a o) :
  Inv X cM σ (upd H a o) { s with heap:=h',toks:=t' }:=I.un (Un.laid k hp (I.hok.fresh hp)) (I.hok.laid k hp new)
theorem Inv.write{x e:Addr}{o:HO}{t':Nat}(I:Inv X cM σ H s)(mu:Mut (H x))(he:e=x\/H e=some (.own x))(k:∀b u,b≠e->s.heap.get? b=some u->h'.get? b=some u)(heo:∃u,h'.get? e=some u)
  (new:bX X.prog X.w (upd H x o) h' x o):Inv X cM σ (upd H x o) { s with heap:=h',toks:=t' }:=I.un (Un.write mu he k heo) (I.hok.write mu he k heo new)
theorem Inv.sG{Bt:List (Addr×Obj)}(I:Inv X cM σ H s)(h:∀p∈Bt,s.heap.get? p.1=some p.2/\H p.1=none/\p.1≠X.env.locals/\p.1∉X.fs/\∀v,p.2.data≠.cell v):Inv X Bt σ H s:=
 ⟨I.ok,I.os,I.bare,I.base,I.loc,I.cell,I.free,I.fU,fun p hp=>(Ks.mp hp).elim (fun z=>I.pin p (K7 _ z)) (h p),I.hok,I.len⟩
theorem oz{N:List Str}(hN:N.Nodup){i j:Nat}(a:N[i]?=some x)(b:N[j]?=some x):i=j:=by obtain⟨h1,e1⟩:=JH.mp a;obtain⟨h2,e2⟩:=JH.mp b;exact(List.getElem_inj hN).mp (e1.trans e2.symm)
theorem mj{M:Model}{A:Around}{E:Value->Shared->Prop}{Q:Unit->Shared->Prop}(I:Inv X cM σ H s)(hN:X.N.Nodup)(hi:X.N[i]?=some x)(hx:Loc X.env.scope x)(r:RelV v u)
  (h:∀s',Inv X cM (σ.set i (some v)) H s'->(∃a,Heap.SameBut a s.heap s'.heap/\(a=X.env.locals\/X.env.cells.lookup x=some a))->Q () s') (hf:X.fn x=true\/X.env.scope.names.lookup x=some .local:=by trivial):wpAny M A (storeName X.env x u) Q E s:=by
 obtain⟨m,hn,hl⟩:=id I.loc;have hcls:(X.env.scope.kind == .class||(X.env.scope.kind == .module&&X.env.locals != X.env.globals))=false:=by rw[I.ok.kind];rfl
 have hiσ:i<σ.length:=by rw[I.len];exact(JH.mp hi).1
 have cne:=I.cne;have tracked:∀{a:Addr} {h':Heap},(∃o,s.heap.get? a=some o/\H a=none)->Heap.SameBut a s.heap h'->HOk X.prog X.w H h':=fun {a h'} ha hs b ob e=>by
  obtain⟨_,_,hfree⟩:=ha;refine(I.hok b ob e).stay (fun c w' hc q=>(hs.2 c ?_).trans q) (fun _ q=>q) (fun _ _ _ q=>q) fun _ _ q=>q;rintro rfl;rcases hc with rfl | hc
  ·rw[hfree]at e;cases e
  ·rw[hfree]at hc;cases hc
 rcases hx with hk | hk
 ·refine wpAny_storeName_local hk hn (fun h' hn' hs=>?_) hcls;obtain⟨oL,_,_,hoL,_⟩:=id hn;refine h _ ⟨I.ok,I.os,I.bare,⟨fun b o e n hb hx=>?_,fun b o e n hb hx=>?_,I.base.free,fun b o e hx=>?_,I.base.tups,I.base.mZ,I.base.ou⟩,⟨_,hn',fun j y v' e1 e2 e3=>?_⟩,fun y c e=>?_,I.free,I.fU,fun p hp=>?_,tracked ⟨oL,hoL,I.free⟩ hs,by simpa using I.len⟩ ⟨_,hs,.inl rfl⟩
  ·exact(hs.2 b (J9 (JS (JP e) I.ok.above))).trans (I.base.keep b o e n hb hx)
  ·obtain⟨sl,e1⟩:=I.base.slot b o e n hb hx;exact⟨sl,(hs.2 b (J9 (JS (JP e) I.ok.above))).trans e1⟩
  ·obtain⟨o',e1⟩:=I.base.there b o e hx;exact⟨o',(hs.2 b (J9 (JS (JP e) I.ok.above))).trans e1⟩
  ·by_cases hj:j=i
   ·subst hj;rw[hi]at e1;cases e1;rw[J3 hiσ]at e2;cases e2;exact⟨u,r,.inl ⟨hk,by simp⟩⟩
   ·rw[Jz (Kl hj)]at e2;obtain⟨u',r',q⟩:=hl j y v' e1 e2 e3;refine⟨u',r',?_⟩;rcases q with⟨k,e⟩ | ⟨k,c,e,z⟩
    ·refine .inl ⟨k,?_⟩;have:y≠x:=fun e=>hj (oz hN e1 (e▸hi));simp[this,e]
    ·exact .inr ⟨k,c,e,z.sameBut hs (cne y c e)⟩
  ·obtain⟨w',z⟩:=I.cell y c e;exact⟨w',z.sameBut hs (cne y c e)⟩
  ·obtain⟨e,n,ne,nf,d⟩:=I.pin p hp;exact⟨(hs.2 p.1 ne).trans e,n,ne,nf,d⟩
 ·have hfn:X.fn x=true:=by
   rcases hf with z | z
   ·exact z
   ·rw[z]at hk;cases hk
  obtain⟨c,hc⟩:=I.ok.has x (.inl hk);obtain⟨w',z⟩:=I.cell x c hc;refine wpAny_storeName_cell I.ok.kind hk hc z (fun h' hc' hs=>?_);obtain⟨oc,hoc,Ia⟩:=id z;refine h { s with heap:=h' } ⟨I.ok,I.os,I.bare,⟨fun b o e n hb hx=>?_,fun b o e n hb hx=>?_,I.base.free,fun b o e hx=>?_,I.base.tups,I.base.mZ,I.base.ou⟩,⟨m,hn.sameBut hs (Kl (cne x c hc)),fun j y v' e1 e2 e3=>?_⟩,fun y c' e=>?_,I.free,I.fU,fun p hp=>?_,tracked ⟨oc,hoc,I.fU x c hc⟩ hs,by simpa using I.len⟩ ⟨c,hs,.inr hc⟩
  ·exact(hs.2 b (J9 (JS (JP e) (I.ok.cab x c hfn hc)))).trans (I.base.keep b o e n hb hx)
  ·obtain⟨sl,e1⟩:=I.base.slot b o e n hb hx;exact⟨sl,(hs.2 b (J9 (JS (JP e) (I.ok.cab x c hfn hc)))).trans e1⟩
  ·obtain⟨o',e1⟩:=I.base.there b o e hx;exact⟨o',(hs.2 b (J9 (JS (JP e) (I.ok.cab x c hfn hc)))).trans e1⟩
  ·by_cases hj:j=i
   ·subst hj;rw[hi]at e1;cases e1;rw[J3 hiσ]at e2;cases e2;exact⟨u,r,.inr ⟨.inl hk,c,hc,hc'⟩⟩
   ·rw[Jz (Kl hj)]at e2;obtain⟨u',r',q⟩:=hl j y v' e1 e2 e3;refine⟨u',r',?_⟩;rcases q with q | ⟨k,c',e,z'⟩
    ·exact .inl q
    ·refine .inr ⟨k,c',e,z'.sameBut hs ?_⟩;rintro rfl;exact hj (oz hN e1 (I.ok.inj _ _ _ e hc▸hi))
  ·by_cases hcc:c'=c
   ·subst hcc;exact⟨_,hc'⟩
   ·obtain⟨w2,z2⟩:=I.cell y c' e;exact⟨w2,z2.sameBut hs hcc⟩
  ·obtain⟨e,n,ne,nf,d⟩:=I.pin p hp;refine⟨(hs.2 p.1 ?_).trans e,n,ne,nf,d⟩;intro q;rw[q,hoc]at e;have q':oc=p.2:=Option.some.inj e;exact d w' (by rw[<- q'];exact Ia)
theorem oA{M:Model}{A:Around}{E:Value->Shared->Prop}{Q:Unit->Shared->Prop}(I:Inv X cM σ H s)(hN:X.N.Nodup)(hi:X.N[i]?=some x)(hx:Loc X.env.scope x)(r:RelV v u)
  (h:∀s',Inv X cM (σ.set i (some v)) H s'->Q () s') (hf:X.fn x=true\/X.env.scope.names.lookup x=some .local:=by trivial):wpAny M A (storeName X.env x u) Q E s:=
 mj I hN hi hx r (fun s' I' _=>h s' I') hf
theorem Inv.E7{s':Shared}(I:Inv X cM σ H s)(ho:s'.os=s.os)(u:Un (frs X.stack) ch H H' s.heap s'.heap)(hok:HOk X.prog X.w H' s'.heap)(hg:AllBare s'.gens)
  (hch:∀b∈ch,(b∈X.ex\/X.s₀.heap.objs.size<=b)/\b≠X.env.locals/\(∀x c,X.env.cells.lookup x=some c->c≠b)/\∀p∈X.pn++cM,p.1≠b):Inv X cM σ H' s':=by
 obtain⟨h',g',d',t',o'⟩:=s';have e:o'=s.os:=ho;subst e;exact I.call (g':=g') (t':=t') (d':=d') u hok hg hch
end
end
noncomputable abbrev XK:=Value->Option Addr->Hp->Prop
noncomputable abbrev St:=List (Option V)
noncomputable abbrev VK:=V->Hp->Prop
noncomputable abbrev TE:=St->Hp->VK->Prop
noncomputable abbrev TT:=St->Hp->(Bool->Hp->Prop)->Prop
noncomputable abbrev TA:=St->Hp->(List V->Hp->Prop)->Prop
structure Ends where
 nx:St->Hp->Prop
 rt:VK
 bk:St->Hp->Prop:=fun _ _=>False
 ct:St->Hp->Prop:=fun _ _=>False
noncomputable abbrev TS:=Ends->St->Hp->Prop
def EP(X:Cx)(cM:List (Addr×Obj))(σ:St)(Q:VK)(u:Value)(s':Shared):Prop:=∃v H',Inv X cM σ H' s'/\RelV v u/\Q v H'
def TP(X:Cx)(cM:List (Addr×Obj))(σ:St)(Q:Bool->Hp->Prop)(b:Bool)(s':Shared):Prop:=∃H',Inv X cM σ H' s'/\Q b H'
def AP(X:Cx)(cM:List (Addr×Obj))(σ:St)(Q:List V->Hp->Prop)(us:List Value)(s':Shared):Prop:=∃vs H',Inv X cM σ H' s'/\Vals vs us/\Q vs H'
def SP(X:Cx)(cM:List (Addr×Obj))(D:Ends)(f:Flow)(s':Shared):Prop:=
 match f with
 |.next=>∃σ' H',Inv X cM σ' H' s'/\D.nx σ' H'
 |.brk=>∃σ' H',Inv X cM σ' H' s'/\D.bk σ' H'
 |.cont=>∃σ' H',Inv X cM σ' H' s'/\D.ct σ' H'
 |.ret u=>∃v σ' H',Inv X cM σ' H' s'/\RelV v u/\D.rt v H'
def PE(X:Cx)(e:Expr)(t:TE):Prop:=
 ∀(cM:List (Addr×Obj)) (s:Shared) (σ:St) (H:Hp) (Q:VK),Inv X cM σ H s->t σ H Q->wpAny (model X.prog X.w) X.A (eval e X.env) (EP X cM σ Q) X.xe s
def PT(X:Cx)(e:Expr)(t:TT):Prop:=
 ∀(cM:List (Addr×Obj)) (s:Shared) (σ:St) (H:Hp) (Q:Bool->Hp->Prop),Inv X cM σ H s->t σ H Q->wpAny (model X.prog X.w) X.A (isTrue e X.env (eval e X.env)) (TP X cM σ Q) X.xe s
def PW(X:Cx)(e:Expr)(t:TT):Prop:=
 ∀(whole:Sem Value) (cM:List (Addr×Obj)) (s:Shared) (σ:St) (H:Hp) (Q:Bool->Hp->Prop),Inv X cM σ H s->t σ H Q->wpAny (model X.prog X.w) X.A (isTrue e X.env whole) (TP X cM σ Q) X.xe s
theorem PW.pt{X:Cx}{e:Expr}{t:TT}(h:PW X e t):PT X e t:=h _
def PA(X:Cx)(es:List Expr)(t:TA):Prop:=
 ∀(pos:Pos) (cM:List (Addr×Obj)) (s:Shared) (σ:St) (H:Hp) (Q:List V->Hp->Prop),Inv X cM σ H s->t σ H Q->wpAny (model X.prog X.w) X.A (spliced (backTo pos (starEach es X.env))) (AP X cM σ Q) X.xe s
def PS(X:Cx)(st:Stmt)(t:TS):Prop:=
 ∀(cM:List (Addr×Obj)) (s:Shared) (σ:St) (H:Hp) (D:Ends),Inv X cM σ H s->t D σ H->wpAny (model X.prog X.w) X.A (exec st X.env) (SP X cM D) X.xe s
def PSs(X:Cx)(st:List Stmt)(t:TS):Prop:=
 ∀(cM:List (Addr×Obj)) (s:Shared) (σ:St) (H:Hp) (D:Ends),Inv X cM σ H s->t D σ H->wpAny (model X.prog X.w) X.A (execs st X.env) (SP X cM D) X.xe s
theorem thn{α:Type}{t:Sem α}{Q Q':α->Shared->Prop}{M:Model}{A:Around}{E:Value->Shared->Prop}{s:Shared}(h:wpAny M A t Q E s)(hQ:∀a s,Q a s->Q' a s):wpAny M A t Q' E s:=wpAny_mono h hQ fun _ _ x=>x
section
variable{X:Cx}
section
variable{Q:Value->Shared->Prop}{cM:List (Addr×Obj)}{u:Value}{x:Str}{s:Shared}{H:Hp}{σ:St}{t:TE}{v:V}
def uB(i:Nat):TE:=fun σ H Q=>∃v,σ[i]?=some (some v)/\Q v H
def tC(v:V):TE:=fun _ H Q=>Q v H
theorem jO{i:Nat}{pos:Pos}(hN:X.N[i]?=some x)(hv:Vis X.env.scope x)(hd:(x == ("__debug__" : Str))=false:=by decide)(IU:(x == ("__classdict__" : Str))=false:=by decide):PE X (.Name x pos) (uB i):=by
 intro cM s σ H Q I h;obtain⟨v,e,h⟩:=h;obtain⟨m,hn,hl⟩:=I.loc;obtain⟨u,r,l⟩:=hl i x v hN e hv;have I0:EP X cM σ Q u s:=⟨v,H,I,r,h⟩
 rcases l with⟨hk,hm⟩ | ⟨hk,c,hc,hcell⟩
 ·exact wpAny_Name (wpAny_loadName_local I.ok.kind hk hn hm I0) hd
 ·rcases hk with hk | hk
  ·exact wpAny_Name (wpAny_loadName_cell I.ok.kind hk hc hcell I0) hd
  ·exact wpAny_Name (wpAny_loadName_free I.ok.kind hk hc hcell I0 IU) hd
theorem vK{i j pos}:PE X (.Constant (.int i) j pos) (tC (.int i)):=fun _ _ _ H _ I h=>wpAny_Constant_int ⟨.int i,H,I.tok _,⟨_,rfl⟩,h⟩
theorem E8{b j pos}:PE X (.Constant (.bool b) j pos) (tC (.bl b)):=fun _ _ _ H _ I h=>Constant_bool ⟨.bl b,H,I,rfl,h⟩
theorem Cn{j pos}:PE X (.Constant .none j pos) (tC .non):=fun _ _ _ H _ I h=>Constant_none ⟨.non,H,I,rfl,h⟩
theorem Co{x j pos}:PE X (.Constant (.str x) j pos) (tC (.str x)):=fun _ _ _ H _ I h=>Calls.Constant_str ⟨.str x,H,I.tok _,⟨_,rfl⟩,h⟩
def Gl(X:Cx)(x:Str):Prop:=X.env.kindOf x=some .globalImplicit
theorem sH{E:Value->Shared->Prop}{pos:Pos}(I:Inv X cM σ H s)(hg:Gl X x)(hm:X.mg x=some u)(h:Q u s)
  (hd:(x == ("__debug__" : Str))=false:=by decide):wpAny (model X.prog X.w) X.A (eval (.Name x pos) X.env) Q E s:=
 Calls.Name_function_global I.ok.kind hg (Calls.loadGlobal_global (by rw[I.ok.glob];exact I.mod.glob.keeps I.bk) hm h) hd
theorem cX{E:Value->Shared->Prop}{pos:Pos}(I:Inv X cM σ H s)(hg:Gl X x)(hm:X.mg x=none)(hv:bootBuiltins x=some u)(h:Q u s)
  (hn:x ≠ "__name__" := by decide) (hd:(x == ("__debug__" : Str))=false:=by decide):wpAny (model X.prog X.w) X.A (eval (.Name x pos) X.env) Q E s:=by
 obtain⟨mb,h1,h2⟩:=I.mod.blt;exact Calls.Name_function_global I.ok.kind hg (Calls.loadGlobal_builtin (by rw[I.ok.glob];exact I.mod.glob.keeps I.bk) hm (by rw[I.ok.blt];exact h1.keeps I.bk) ((h2 x hn).trans hv) h) hd
theorem sI{pos:Pos}(hg:Gl X x)(hm:X.mg x=some u)(r:RelV v u)(hd:(x == ("__debug__" : Str))=false:=by decide):PE X (.Name x pos) (tC v):=
 fun _ _ _ H _ I h=>sH I hg hm ⟨v,H,I,r,h⟩ hd
theorem zy{pos:Pos}(hg:Gl X x)(hm:X.mg x=none)(hv:bootBuiltins x=some u)(r:RelV v u)(hn:x ≠ "__name__" := by decide)(hd:(x == ("__debug__" : Str))=false:=by decide):PE X (.Name x pos) (tC v):=
 fun _ _ _ H _ I h=>cX I hg hm hv ⟨v,H,I,r,h⟩ hn hd
variable{a b:Expr}{ta tb:TE}{pos:Pos}
def tB(t:TE):TT:=fun σ H Q=>t σ H fun x H1=>∃c,x=.bl c/\Q c H1
theorem Cp{e:Expr}(h:PE X e t)(he:∀whole,isTrue e X.env whole=(do let v <- whole;standAt e.pos;holding [v] (truthy v)):=by intro _;rfl):PT X e (tB t):=by intro cM s σ H Q I hw;refine isTrue_plain (thn (h cM s σ H _ I hw) fun v s1 ⟨x,H1,I1,r1,q1⟩=>?_) (he _);obtain⟨d,rfl,q⟩:=q1;cases r1;exact wpAny_truthy_bool ⟨H1,I1,q⟩
variable{tA tB':TT}{pM:List Expr}
def bz(t u:TT):TT:=fun σ H Q=>t σ H fun c H1=>if c=true then u σ H1 Q else Q false H1
def tOr(t u:TT):TT:=fun σ H Q=>t σ H fun c H1=>if c=true then Q true H1 else u σ H1 Q
def aR(t:TT):TT:=fun σ H Q=>t σ H fun c H1=>Q (!c) H1
theorem pw_and1(ha:PT X a tA):PW X (.BoolOp .And [a] pos) tA:=by
 intro wh cM s σ H Q I h;refine isTrue_and (thn (ha cM s σ H Q I h) fun c s1 e=>?_);cases c with
 |true=>exact isTrue_and_nil e
 |false=>exact e
theorem pw_or1(ha:PT X a tA):PW X (.BoolOp .Or [a] pos) tA:=by
 intro wh cM s σ H Q I h;refine isTrue_or (thn (ha cM s σ H Q I h) fun c s1 e=>?_);cases c with
 |false=>exact isTrue_or_nil e
 |true=>exact e
theorem pw_and(ha:PT X a tA)(hb:PW X (.BoolOp .And (b::pM) pos) tB'):PW X (.BoolOp .And (a::b::pM) pos) (bz tA tB'):=by
 intro wh cM s σ H Q I h;refine isTrue_and (thn (ha cM s σ H _ I h) fun c s1 ⟨H1,I1,q1⟩=>?_);cases c with
 |true=>exact hb wh cM s1 σ H1 Q I1 q1
 |false=>exact⟨H1,I1,q1⟩
theorem pw_or(ha:PT X a tA)(hb:PW X (.BoolOp .Or (b::pM) pos) tB'):PW X (.BoolOp .Or (a::b::pM) pos) (tOr tA tB'):=by
 intro wh cM s σ H Q I h;refine isTrue_or (thn (ha cM s σ H _ I h) fun c s1 ⟨H1,I1,q1⟩=>?_);cases c with
 |true=>exact⟨H1,I1,q1⟩
 |false=>exact hb wh cM s1 σ H1 Q I1 q1
theorem Cq(ha:PT X a tA):PT X (.UnaryOp .Not a pos) (aR tA):=by intro cM s σ H Q I h;exact isTrue_not (ha cM s σ H (fun c H1=>Q (!c) H1) I h)
def Bu(ta tb:TE):TE:=fun σ H Q=>ta σ H fun x H1=>∃c,x=.bl c/\if c=true then tb σ H1 Q else Q (.bl false) H1
def Bv(ta:TE):TE:=fun σ H Q=>ta σ H fun x H1=>∃c,x=.bl c/\Q (.bl (!c)) H1
theorem Cr{op}(h:PE X a t):PE X (.BoolOp op [a] pos) t:=fun cM s σ H Q I hw=>BoolOp_one (h cM s σ H Q I hw)
theorem Cs(ha:PE X a ta)(hb:PE X (.BoolOp .And (b::pM) pos) tb):PE X (.BoolOp .And (a::b::pM) pos) (Bu ta tb):=by
 intro cM s σ H Q I h;refine BoolOp_and (thn (ha cM s σ H _ I h) fun v s1 ⟨x,H1,I1,r1,q1⟩=>?_);obtain⟨c,rfl,q1⟩:=q1;cases r1;refine wpAny_truthy_bool ?_;cases c with
 |true=>exact hb cM s1 σ H1 Q I1 q1
 |false=>exact⟨.bl false,H1,I1,rfl,q1⟩
theorem Ct(ha:PE X a ta):PE X (.UnaryOp .Not a pos) (Bv ta):=by intro cM s σ H Q I h;refine UnaryOp_ (thn (ha cM s σ H _ I h) fun v s1 ⟨x,H1,I1,r1,q1⟩=>?_);obtain⟨c,rfl,q1⟩:=q1;cases r1;exact not_of (wpAny_truthy_bool ⟨.bl (!c),H1,I1,rfl,q1⟩)
def tIf(t:TT)(ta tb:TE):TE:=fun σ H Q=>t σ H fun c H1=>if c=true then ta σ H1 Q else tb σ H1 Q
theorem vL{c:Expr}(hc:PT X c tA)(ha:PE X a ta)(hb:PE X b tb):PE X (.IfExp c a b pos) (tIf tA ta tb):=by
 intro cM s σ H Q I h;refine wpAny_IfExp (thn (hc cM s σ H _ I h) fun d s1 ⟨H1,I1,q1⟩=>?_);cases d with
 |true=>exact ha cM s1 σ H1 Q I1 q1
 |false=>exact hb cM s1 σ H1 Q I1 q1
end
end
def SqL(K:Js)(H:Hp)(a:Addr)(xs:List V):Prop:=
 Rd H a (.lst xs) \/
  ∃(o:Obj) (its:Array Value) (n:Nat),K.lookup a=some o/\o.cls=.type "list" /\ o.dict=none/\o.data=.seq its n/\its.size<=sizeLine/\Vals xs its.toList
def SqT(K:Js)(H:Hp)(a:Addr)(xs:List V):Prop:=
 Rd H a (.tup xs) \/
  ∃(o:Obj) (its:Array Value) (n:Nat),K.lookup a=some o/\o.cls=.type "tuple" /\ o.data=.seq its n/\its.size<=sizeLine/\Vals xs its.toList
noncomputable def Ib:Value->Option V
 |.none=>some .non
 |.bool b=>some (.bl b)
 |.int i _=>some (.int i)
 |.str x _=>some (.str x)
 |.bytes b _=>some (.byt b)
 |.float b _=>some (.flt b)
 |.ref a=>some (.ref a)
 |.type n=>some (.ty n)
 |_=>none
theorem RelV.abs{x:V}{u:Value}(r:RelV x u):Ib u=some x:=by
 cases x with
 |non=>cases r;rfl
 |bl _=>cases r;rfl
 |int _=>obtain⟨t,rfl⟩:=r;rfl
 |str _=>obtain⟨t,rfl⟩:=r;rfl
 |byt _=>obtain⟨t,rfl⟩:=r;rfl
 |flt _=>obtain⟨t,rfl⟩:=r;rfl
 |ref _=>cases r;rfl
 |ty _=>cases r;rfl
theorem RelV.inj{x y:V}{u:Value}(r:RelV x u)(q:RelV y u):x=y:=Option.some.inj (r.abs.symm.trans q.abs)
theorem Vals.inj:∀{xs ys:List V} {us:List Value},Vals xs us->Vals ys us->xs=ys
 |_,_,_,.nil,.nil=>rfl
 |_,_,_,.cons r t,.cons r' t'=>by rw[r.inj r',Vals.inj t t']
section
variable{X:Cx}{cM:List (Addr×Obj)}{σ:St}{H:Hp}{s:Shared}{a:Addr}{xs ys:List V}
theorem SqT.of{K:Js}(h:H a=some (.tup xs)):SqT K H a xs:=.inl (.inl h)
theorem Inv.list(I:Inv X cM σ H s)(h:SqL X.K H a xs):∃its:List Value,Vals xs its/\PlainL s.heap a its.toArray/\xs.length<=sizeLine:=by
 rcases h with h | ⟨o,its,n,hk,hc,hd,hs,hz,r⟩
 ·obtain⟨z,its,n,r,e⟩:=h.ok I.hok;exact⟨its,r,⟨_,n,e,rfl,rfl,rfl⟩,z⟩
 ·refine⟨its.toList,r,⟨o,n,I.kIn a o hk,hc,hd,by simpa using hs⟩,?_⟩;have e:=r.length;simp only[LC]at e
  lia
theorem Inv.tuple(I:Inv X cM σ H s)(h:SqT X.K H a xs):∃its:List Value,Vals xs its/\IsTup s.heap a its.toArray/\xs.length<=sizeLine:=by
 rcases h with h | ⟨o,its,n,hk,hc,hs,hz,r⟩
 ·obtain⟨z,its,r,p⟩:=h.ok I.hok;exact⟨its,r,p,z⟩
 ·refine⟨its.toList,r,⟨o,I.kIn a o hk,hc,n,by simpa using hs⟩,?_⟩;have e:=r.length;simp only[LC]at e
  lia
theorem Inv.eZ(I:Inv X cM σ H s)(h:SqL X.K H a xs)(h':SqL X.K H a ys):xs=ys:=by
 obtain⟨its,r,⟨o,n,e,_,_,d⟩,_⟩:=I.list h;obtain⟨its',r',⟨o',n',e',_,_,d'⟩,_⟩:=I.list h';rw[e]at e';cases e';rw[d]at d';injection d' with d1 _
 have:its=its':=by simpa using congrArg Array.toList d1
 subst this;exact r.inj r'
theorem Inv.uC(I:Inv X cM σ H s)(h:SqT X.K H a xs)(h':SqT X.K H a ys):xs=ys:=by
 obtain⟨its,r,⟨o,e,_,n,d⟩,_⟩:=I.tuple h;obtain⟨its',r',⟨o',e',_,n',d'⟩,_⟩:=I.tuple h';rw[e]at e';cases e';rw[d]at d';injection d' with d1 _
 have:its=its':=by simpa using congrArg Array.toList d1
 subst this;exact r.inj r'
end
noncomputable abbrev Cx.lY(X:Cx)(E:Value->Shared->Prop):Cx:={ X with xe:=E }
noncomputable abbrev Cx.nox(X:Cx):Cx:=X.lY fun _ _=>False
theorem Cx.Ok.lY{X:Cx}(ok:X.Ok)(E:Value->Shared->Prop):(X.lY E).Ok:=
 ⟨ok.mod,ok.kind,ok.glob,ok.blt,ok.above,ok.inj,ok.has,ok.cab,ok.hd,ok.frames,ok.stk,ok.exf,ok.bs,ok.bsz,ok.vJ,ok.zx,ok.jN,ok.frf⟩
theorem Cx.Ok.e7{X:Cx}{E:Value->Shared->Prop}(ok:(X.lY E).Ok):X.Ok:=
 ⟨ok.mod,ok.kind,ok.glob,ok.blt,ok.above,ok.inj,ok.has,ok.cab,ok.hd,ok.frames,ok.stk,ok.exf,ok.bs,ok.bsz,ok.vJ,ok.zx,ok.jN,ok.frf⟩
section
variable{X:Cx}{cM:List (Addr×Obj)}{σ:St}{H:Hp}{s:Shared}{E:Value->Shared->Prop}
theorem Inv.lY(I:Inv X cM σ H s)(E:Value->Shared->Prop):Inv (X.lY E) cM σ H s:=⟨I.ok.lY E,I.os,I.bare,I.base,I.loc,I.cell,I.free,I.fU,I.pin,I.hok,I.len⟩
theorem Inv.e7(I:Inv (X.lY E) cM σ H s):Inv X cM σ H s:=⟨I.ok.e7,I.os,I.bare,I.base,I.loc,I.cell,I.free,I.fU,I.pin,I.hok,I.len⟩
theorem SP.e7{D:Ends}{f:Flow}{s':Shared}(h:SP (X.lY E) cM D f s'):SP X cM D f s':=by
 cases f with
 |next=>obtain⟨σ',H',I,q⟩:=h;exact⟨σ',H',I.e7,q⟩
 |brk=>obtain⟨σ',H',I,q⟩:=h;exact⟨σ',H',I.e7,q⟩
 |cont=>obtain⟨σ',H',I,q⟩:=h;exact⟨σ',H',I.e7,q⟩
 |ret u=>obtain⟨v,σ',H',I,r,q⟩:=h;exact⟨v,σ',H',I.e7,r,q⟩
theorem PSs.nox{st:List Stmt}{t:TS}(h:PSs X.nox st t):PSs X st t:=fun cM s σ H D I hw=>wpAny_mono (h cM s σ H D (I.lY _) hw) (fun _ _ q=>q.e7) fun _ _ z=>J7 z
end
section
variable{X:Cx}{st:Stmt}{pM:List Stmt}{t u:TS}{e:Expr}{te:TE}{pos:Pos}
def sJ:TS:=fun D σ H=>D.nx σ H
def oB(t u:TS):TS:=fun D σ H=>t { D with nx:=u D } σ H
theorem m7:PSs X [] sJ:=fun _ _ σ H _ I h=>wpAny_execs_nil ⟨σ,H,I,h⟩
theorem dw(h1:PS X st t)(h2:PSs X pM u):PSs X (st::pM) (oB t u):=by
 intro cM s σ H D I h;refine wpAny_execs_cons (thn (h1 cM s σ H { D with nx:=u D } I h) fun f s1 q=>?_);cases f with
 |next=>obtain⟨σ',H',I',q⟩:=q;exact h2 cM s1 σ' H' D I' q
 |ret v=>exact q
 |brk=>exact q
 |cont=>exact q
theorem jF(h1:PS X st t):PSs X [st] t:=by
 intro cM s σ H D I h;refine wpAny_execs_cons (thn (h1 cM s σ H D I h) fun f s1 q=>?_);cases f with
 |next=>exact wpAny_execs_nil q
 |ret v=>exact q
 |brk=>exact q
 |cont=>exact q
theorem Inv.quiet{cM:List (Addr×Obj)}{σ:St}{H:Hp}{s:Shared}(I:Inv X cM σ H s):interactive X.env=false:=by simp[interactive,I.ok.kind]
def sL(te:TE):TS:=fun D σ H=>te σ H fun _ H1=>D.nx σ H1
theorem m8(he:PE X e te)(hs:swapsWith e none pos.line X.env=pure false:=by rfl):PS X (.Expr e pos) (sL te):=by intro cM s σ H D I h;exact wpAny_Expr_any (thn (he cM s σ H _ I h) fun v s1 ⟨x,H1,I1,r1,q1⟩=>⟨σ,H1,I1,q1⟩) I.quiet hs
def zz(te:TE):TS:=fun D σ H=>te σ H D.rt
theorem qI(he:PE X e te):PS X (.Return (some e) pos) (zz te):=by intro cM s σ H D I h;exact wpAny_Return_some (thn (he cM s σ H _ I h) fun v s1 ⟨x,H1,I1,r1,q1⟩=>⟨x,σ,H1,I1,r1,q1⟩)
def zA(c:TT)(t u:TS):TS:=fun D σ H=>c σ H fun b H1=>if b=true then t D σ H1 else u D σ H1
theorem vM{c:Expr}{a b:List Stmt}{tc:TT}(hc:PT X c tc)(ha:PSs X a t)(hb:PSs X b u):PS X (.If c a b pos) (zA tc t u):=by
 intro cM s σ H D I h;refine wpAny_If (thn (hc cM s σ H _ I h) fun d s1 ⟨H1,I1,q1⟩=>?_);cases d with
 |true=>exact ha cM s1 σ H1 D I1 q1
 |false=>exact hb cM s1 σ H1 D I1 q1
def Cu:TS:=fun _ _ _=>False
theorem oE:PS X st Cu:=fun _ _ _ _ _ _ h=>h.elim
end
noncomputable abbrev TG:=V->St->Hp->(St->Hp->Prop)->Prop
noncomputable abbrev TGs:=List V->St->Hp->(St->Hp->Prop)->Prop
def PG(X:Cx)(target:Expr)(t:TG):Prop:=
 ∀(cM:List (Addr×Obj)) (s:Shared) (σ:St) (H:Hp) (v:V) (u:Value) (Q:St->Hp->Prop),Inv X cM σ H s->RelV v u->t v σ H Q ->
  wpAny (model X.prog X.w) X.A (assign target X.env u) (fun _ s'=>∃σ' H',Inv X cM σ' H' s'/\Q σ' H') X.xe s
def PGs(X:Cx)(ts:List Expr)(t:TGs):Prop:=
 ∀(cM:List (Addr×Obj)) (s:Shared) (σ:St) (H:Hp) (vs:List V) (us:List Value) (Q:St->Hp->Prop),Inv X cM σ H s->Vals vs us->t vs σ H Q ->
  wpAny (model X.prog X.w) X.A (assignInOrder ((assignEach ts X.env).map (·.2)) us) (fun _ s'=>∃σ' H',Inv X cM σ' H' s'/\Q σ' H') X.xe s
noncomputable abbrev Cv:=V->V->V->Hp->(Hp->Prop)->Prop
def E9(X:Cx)(t:Cv):Prop:=
 ∀(cM:List (Addr×Obj)) (s:Shared) (σ:St) (H:Hp) (o i v:V) (ov iv u:Value) (Q:Hp->Prop),Inv X cM σ H s->RelV o ov->RelV i iv->RelV v u->t o i v H Q ->
  wpAny (model X.prog X.w) X.A (setItem ov iv u) (fun _ s'=>∃H',Inv X cM σ H' s'/\Q H') X.xe s
section
variable{X:Cx}{pos:Pos}
section
variable{es:List Expr}{e:Expr}{x:Str}{i:Nat}{te:TE}
def g7(i:Nat):TG:=fun v σ H Q=>Q (σ.set i (some v)) H
theorem m9(hN:X.N.Nodup)(hi:X.N[i]?=some x)(hx:Loc X.env.scope x)(hf:X.fn x=true\/X.env.scope.names.lookup x=some .local:=by trivial):PG X (.Name x pos) (g7 i):=by intro cM s σ H v u Q I r h;exact wpAny_assign_Name (oA I hN hi hx r (fun s' I'=>⟨_,H,I',h⟩) hf)
def E_:TGs:=fun vs σ H Q=>vs=[]/\Q σ H
def Bw(t:TG)(u:TGs):TGs:=fun vs σ H Q=>∃v r,vs=v::r/\t v σ H fun σ' H'=>u r σ' H' Q
theorem zB:PGs X [] E_:=by intro cM s σ H vs us Q I r h;obtain⟨e,h⟩:=h;subst e;cases r;exact assignInOrder_nil ⟨σ,H,I,h⟩
theorem vN{t:TG}{u:TGs}(h1:PG X e t)(h2:PGs X es u)
  (hs:(assignEach (e::es) X.env).map (·.2)=assign e X.env::(assignEach es X.env).map (·.2):=by rfl):PGs X (e::es) (Bw t u):=by
 intro cM s σ H vs us Q I r h;obtain⟨v,vr,e1,h⟩:=h;subst e1;cases r with
 |cons r rr=>rw[hs];refine assignInOrder_cons (thn (h1 cM s σ H _ _ _ I r h) fun _ s1 ⟨σ1,H1,I1,q1⟩=>?_);exact h2 cM s1 σ1 H1 _ _ Q I1 rr q1
def zC(K:Js)(n:Nat)(t:TGs):TG:=fun v σ H Q=>∃a xs,v=.ref a/\SqT K H a xs/\xs.length=n/\t xs σ H Q
theorem nc{k:Nat}{t:TGs}{n:Nat}(hc:X.calm=true)(h:PGs X es t)
  (hn:(assignEach es X.env).length=n:=by rfl) (hst:(assignEach es X.env).findIdx? (·.1)=none:=by rfl):PG X (.Tuple es k pos) (zC X.K n t):=by
 intro cM s σ H v u Q I r hw;obtain⟨a,xs,e1,hq,hl,hw⟩:=hw;subst e1;cases r;obtain⟨its,rv,ht,hz⟩:=I.tuple hq;refine assign_Tuple_tuple (I.ok.hd hc) ht (by simp[hn,<- hl,rv.length]) hst fun h' hx=>?_;have I1:Inv X cM σ H { s with heap:=h' }:=I.kept (t':=s.toks) fun b o e=>hx b o (J9 (JP e)) e;exact h cM _ σ H xs _ Q I1 (by simpa using rv) hw
def aZ(to ti:TE)(t:Cv):TG:=fun v σ H Q=>to σ H fun o H1=>ti σ H1 fun i H2=>t o i v H2 fun H3=>Q σ H3
theorem Cw{o i:Expr}{to ti:TE}{t:Cv}(ho:PE X o to)(hi:PE X i ti)(hs:E9 X t)
  (ha:∀ v,assign (.Subscript o i pos) X.env v=(do
   let ov <- holding [v] (eval o X.env)
   let iv <- holding [v,ov] (eval i X.env)
   standAt pos
   holding [v,ov,iv] (setItem ov iv v)
   release [v,ov,iv] []):=by intro _;rfl):PG X (.Subscript o i pos) (aZ to ti t):=by
 intro cM s σ H v u Q I r h;rw[ha];refine wpAny_bind (wpAny_holding (thn (ho cM s σ H _ I h) fun ov s1 ⟨x,H1,I1,r1,q1⟩=>?_));refine wpAny_bind (wpAny_holding (thn (hi cM s1 σ H1 _ I1 q1) fun iv s2 ⟨y,H2,I2,r2,q2⟩=>?_));refine wpAny_bind (wpAny_standAt (wpAny_bind (wpAny_holding (thn (hs cM s2 σ H2 x y v ov iv u _ I2 r1 r2 r q2) fun _ s3 ⟨H3,I3,q3⟩=>?_))));exact wpAny_release ⟨σ,H3,I3,q3⟩
def ng(te:TE)(g:TG):TS:=fun D σ H=>te σ H fun x H1=>g x σ H1 D.nx
theorem qJ{tg e:Expr}{g:TG}(he:PE X e te)(hg:PG X tg g)(hs:swapsWithSole [tg] e pos.line X.env=pure false:=by rfl)(hw:swappedStores [tg] e X.env=pure none:=by rfl)
  (h1:(assignEach [tg] X.env).map (·.2)=[assign tg X.env]:=by rfl):PS X (.Assign [tg] e pos) (ng te g):=by
 intro cM s σ H D I h;refine wpAny_Assign_stores (thn (he cM s σ H _ I h) fun v s1 ⟨x,H1,I1,r1,q1⟩=>?_) hs hw;rw[h1];exact thn (hg cM s1 σ H1 x v _ I1 r1 q1) fun _ s2 q=>q
theorem qK{pos':Pos}(hN:X.N.Nodup)(hi:X.N[i]?=some x)(hx:Loc X.env.scope x)(he:PE X e te)(hs:swapsWith e (some (.Name x pos')) pos.line X.env=pure false:=by rfl)(hf:X.fn x=true\/X.env.scope.names.lookup x=some .local:=by trivial) :
  PS X (.Assign [.Name x pos'] e pos) (ng te (g7 i)):=by
 intro cM s σ H D I h;refine wpAny_Assign_Name (thn (he cM s σ H _ I h) fun v s1 ⟨y,H1,I1,r1,q1⟩=>?_) hs;exact oA I1 hN hi hx r1 (fun s2 I2=>⟨_,H1,I2,q1⟩) hf
end
end
section
variable{X:Cx}{pos:Pos}
def vO(c:TT)(tb:TS):TS:=fun D σ H=>∃W:Nat->St->Hp->Prop,(∃m,W m σ H)/\∀m σ H,W m σ H ->
 c σ H fun b H1=>if b=true then ∃N:St->Hp->Prop,(∀σ' H',N σ' H'->∃m',m'<m/\W m' σ' H')/\tb { D with nx:=N,ct:=N,bk:=D.nx } σ H1 else D.nx σ H1
theorem vP{c:Expr}{body:List Stmt}{tc:TT}{tb:TS}(hp:PassesOwn (model X.prog X.w) X.A X.env X.xe)(hc:PT X c tc)(hb:PSs X body tb):PS X (.While c body [] pos) (vO tc tb):=by
 intro cM s σ H D I h;obtain⟨W,⟨m0,w0⟩,turn⟩:=h;refine wpAny_While (codeAny_whileLoop (fun n s'=>∃σ' H',Inv X cM σ' H' s'/\W n σ' H') ?_ m0 ⟨σ,H,I,w0⟩);rintro n s1 ⟨σ1,H1,I1,w1⟩;refine wpAny_passesOwn hp (thn (hc cM s1 σ1 H1 _ I1 (turn n σ1 H1 w1)) fun b s2 ⟨H2,I2,q2⟩=>?_);cases b with
 |true=>
  obtain⟨N,hN,q2⟩:=q2;rw[if_pos rfl];refine wpAny_passesOwn hp (thn (hb cM s2 σ1 H2 _ I2 q2) fun f s3 q3=>?_);cases f with
  |next=>obtain⟨σ3,H3,I3,n3⟩:=q3;obtain⟨m',hm,w3⟩:=hN σ3 H3 n3;exact⟨m',hm,σ3,H3,I3,w3⟩
  |cont=>obtain⟨σ3,H3,I3,n3⟩:=q3;obtain⟨m',hm,w3⟩:=hN σ3 H3 n3;exact⟨m',hm,σ3,H3,I3,w3⟩
  |brk=>exact q3
  |ret v=>exact q3
 |false=>rw[if_neg J1];exact wpAny_execs_nil ⟨σ1,H2,I2,q2⟩
end
section
variable{P:Program}{tg:Expr}{w:World}{s:Shared}
structure It where
 go:Nat->Hp->Prop
 yld:Nat->Hp->V->Hp->Prop
 stop:Nat->Hp->Prop
def lZ(X:Cx)(cM:List (Addr×Obj))(H:Hp)(b:Addr):Prop:=
 H b=none/\b≠X.env.locals/\b∉X.fs/\(b∈X.ex\/X.s₀.heap.objs.size<=b)/\(∀x c,X.env.cells.lookup x=some c->c≠b)/\∀p∈X.pn++cM,p.1≠b
theorem Inv.oF{X:Cx}{cM:List (Addr×Obj)}{σ:St}{H H':Hp}{b:Addr}(I:Inv X cM σ H s)(hb:s.heap.objs.size<=b)(hn:H' b=none):lZ X cM H' b:=by
 refine⟨hn,KR (JS I.lt hb),I.H_ hb,.inr (JU I.sz hb),fun x c e z=>?_,fun p hp z=>?_⟩
 ·obtain⟨v,q⟩:=I.cell x c e;exact absurd (JS q.lt (by rw[z];exact hb)) (Ko _)
 ·exact absurd (JS (JP (I.pin p hp).1) (by rw[z];exact hb)) (Ko _)
structure Turn(P:Program)(w:World)(K:Js)(tg:Expr)(J:It)(fp:List Addr)(it:Addr)(tn:Nat->Heap->Prop):Prop where
 mem:it∈fp
 obj:∀i h,tn i h->∀b∈fp,∃o,h.get? b=some o/\∀v,o.data≠.cell v
 keep:∀i h h',tn i h->(∀b∈fp,∀o,h.get? b=some o->h'.get? b=some o)->tn i h'
 item:∀(X:Cx),X.prog=P->X.w=w->X.K=K->X.calm=true->∀(i:Nat) (cM:List (Addr×Obj)) (s:Shared) (σ:St) (H:Hp) (E:Value->Shared->Prop),Inv X cM σ H s->(∀b∈fp,lZ X cM H b)->tn i s.heap->J.go i H ->
  wpAny (model P w) X.A (pyNext (.ref it)) (fun r s1=>∃ u,r=some u ∧
   wpAny (model P w) X.A (letOwnedTupleGo tg (.ref it) u) (fun _ s2=>∃x H',Inv X cM σ H' s2/\RelV x u/\J.yld i H x H'/\tn (i+1) s2.heap/\∀b∈fp,H' b=none) E s1) E s
 done:∀(X:Cx),X.prog=P->X.w=w->X.K=K->X.calm=true->∀(i:Nat) (cM:List (Addr×Obj)) (s:Shared) (σ:St) (H:Hp) (E:Value->Shared->Prop),Inv X cM σ H s->(∀b∈fp,lZ X cM H b)->tn i s.heap->J.stop i H ->
  wpAny (model P w) X.A (pyNext (.ref it)) (fun r s1=>r=none/\Inv X cM σ H s1) E s
 self:∀(A:Around) (i:Nat) (s:Shared) (Q:Value->Shared->Prop) (E:Value->Shared->Prop),tn i s.heap->Q (.ref it) s->wpAny (model P w) A (pyIter (.ref it)) Q E s
noncomputable abbrev TI:=St->Hp->(It->Hp->Prop)->Prop
def PIE(X:Cx)(cM:List (Addr×Obj))(σ:St)(tg:Expr)(R:It->Hp->Prop)(itv:Value)(s2:Shared):Prop:=
 ∃(it:Addr) (fp:List Addr) (tn:Nat->Heap->Prop) (J:It) (H':Hp),itv=.ref it/\Inv X cM σ H' s2/\Turn X.prog X.w X.K tg J fp it tn/\tn 0 s2.heap/\(∀b∈fp,lZ X cM H' b)/\R J H'
def PI(X:Cx)(tg iter:Expr)(wi:TI):Prop:=
 ∀(cM:List (Addr×Obj)) (s:Shared) (σ:St) (H:Hp) (R:It->Hp->Prop),Inv X cM σ H s->wi σ H R ->
  wpAny (model X.prog X.w) X.A (eval iter X.env) (fun v s1=>wpAny (model X.prog X.w) X.A (pyIter v) (PIE X cM σ tg R) X.xe s1) X.xe s
theorem mq{M:Model}{A:Around}{E:Value->Shared->Prop}{tg:Expr}{it:Addr}{u:Value}{o:Obj}{n:String}{vs:Array Value}{Q:Unit->Shared->Prop}(ho:s.heap.get? it=some o)(hc:o.cls=.type n)(hd:o.data=.fields vs)
  (hn:["enumerate","zip","dict_itemiterator","dict_reverseitemiterator","odict_iterator","itertools.zip_longest","itertools.pairwise"].contains n=false) (hQ:Q () s):wpAny M A (letOwnedTupleGo tg (.ref it) u) Q E s:=by
 unfold letOwnedTupleGo;cases tg<;>first
  |exact wpAny_pure hQ
  | (cases u<;>first
    |exact wpAny_pure hQ
    | (refine wpAny_bind (wpAny_load ho ?_)
       rw[hc,hd];show wpAny M A (if (["enumerate","zip","dict_itemiterator","dict_reverseitemiterator","odict_iterator","itertools.zip_longest","itertools.pairwise"].contains n&&vs[0]? == some (rawInt _))=true then _ else _) Q E s;rw[if_neg (by intro h;rw[hn,Bool.false_and]at h;cases h)];exact wpAny_pure hQ))
noncomputable def Itl(K:Js)(a:Addr):It:=
 ⟨fun i H=>∃xs x,SqL K H a xs/\xs[i]?=some x,fun i H x H'=>H'=H/\∀xs,SqL K H a xs->xs[i]?=some x,fun i H=>∃xs,SqL K H a xs/\xs.length<=i⟩
noncomputable def Itt(K:Js)(a:Addr):It:=
 ⟨fun i H=>∃xs x,SqT K H a xs/\xs[i]?=some x,fun i H x H'=>H'=H/\∀xs,SqT K H a xs->xs[i]?=some x,fun i H=>∃xs,SqT K H a xs/\xs.length<=i⟩
noncomputable def Itr(lo:Int)(n:Nat):It:=⟨fun i _=>i<n,fun i H x H'=>H'=H/\x=.int (lo+i),fun i _=>n<=i⟩
theorem uD{K:Js}(a it:Addr):Turn P w K tg (Itl K a) [it] it (fun i h=>h.IsListIter it a i) where
 mem:=by simp
 obj:=fun i h st b hb=>by
  have e:b=it:=by simpa using hb
  subst e;obtain⟨o,e,c,d⟩:=st;exact⟨o,e,fun v z=>by rw[d]at z;cases z⟩
 keep:=fun i h h' st k=>st.at fun o e=>k it (by simp) o e
 item:=by intro X hP hw hK hc i cM s σ H E I hf st hg;subst hP hw hK;obtain⟨xs,x,hq,hx⟩:=hg;obtain⟨its,rv,p,hz⟩:=I.list hq;obtain⟨u,hu,ru⟩:=rv.get hx;obtain⟨f0,f1,f2,f3,f4,f5⟩:=hf it (by simp);refine wpAny_pyNext_list_item st p.isList (x:=u) (by simpa using hu) fun h' st' sb=>?_;have I1:Inv X cM σ H { s with heap:=h' }:=I.turned (t':=s.toks) (fun b o hb e=>(sb.2 b hb).trans e) f0 f1 f3 f4 f5;obtain⟨o,e,c,d⟩:=id st';exact⟨u,rfl,mq (s:={ s with heap:=h' }) e c d (by decide) ⟨x,H,I1,ru,⟨rfl,fun ys hy=>by rw[I.eZ hy hq];exact hx⟩,st',fun b hb=>(hf b hb).1⟩⟩
 done:=by intro X hP hw hK hc i cM s σ H E I hf st hg;subst hP hw hK;obtain⟨xs,hq,hx⟩:=hg;obtain⟨its,rv,p,hz⟩:=I.list hq;obtain⟨f0,f1,f2,f3,f4,f5⟩:=hf it (by simp);have hl:=rv.length;exact wpAny_pyNext_list_end (I.ok.hd hc) st p.isList (by simp;lia) fun h' eb=>⟨rfl,I.turned (t':=s.toks) (fun b o hb e=>eb b o hb e) f0 f1 f3 f4 f5⟩
 self:=fun _ _ _ _ _ st h=>wpAny_pyIter_listiter st h
theorem qL{K:Js}(a it:Addr):Turn P w K tg (Itt K a) [it] it (fun i h=>h.IsTupleIter it a i) where
 mem:=by simp
 obj:=fun i h st b hb=>by
  have e:b=it:=by simpa using hb
  subst e;obtain⟨o,e,c,d⟩:=st;exact⟨o,e,fun v z=>by rw[d]at z;cases z⟩
 keep:=fun i h h' st k=>st.at fun o e=>k it (by simp) o e
 item:=by intro X hP hw hK hc i cM s σ H E I hf st hg;subst hP hw hK;obtain⟨xs,x,hq,hx⟩:=hg;obtain⟨its,rv,p,hz⟩:=I.tuple hq;obtain⟨u,hu,ru⟩:=rv.get hx;obtain⟨f0,f1,f2,f3,f4,f5⟩:=hf it (by simp);refine wpAny_pyNext_tuple_item st (show s.heap.IsTuple a its.toArray from p) (x:=u) (by simpa using hu) fun h' st' sb=>?_;have I1:Inv X cM σ H { s with heap:=h' }:=I.turned (t':=s.toks) (fun b o hb e=>(sb.2 b hb).trans e) f0 f1 f3 f4 f5;obtain⟨o,e,c,d⟩:=id st';exact⟨u,rfl,mq (s:={ s with heap:=h' }) e c d (by decide) ⟨x,H,I1,ru,⟨rfl,fun ys hy=>by rw[I.uC hy hq];exact hx⟩,st',fun b hb=>(hf b hb).1⟩⟩
 done:=by intro X hP hw hK hc i cM s σ H E I hf st hg;subst hP hw hK;obtain⟨xs,hq,hx⟩:=hg;obtain⟨its,rv,p,hz⟩:=I.tuple hq;obtain⟨f0,f1,f2,f3,f4,f5⟩:=hf it (by simp);have hl:=rv.length;exact wpAny_pyNext_tuple_end (I.ok.hd hc) st (show s.heap.IsTuple a its.toArray from p) (by simp;lia) fun h' eb=>⟨rfl,I.turned (t':=s.toks) (fun b o hb e=>eb b o hb e) f0 f1 f3 f4 f5⟩
 self:=fun _ _ _ _ _ st h=>wpAny_pyIter_tupleiter st h
theorem qM{K:Js}(it:Addr)(lo:Int)(n:Nat):Turn P w K tg (Itr lo n) [it] it (fun i h=>IsRangeIter h it (lo+(i:Nat)*1) ((n:Int)-(i:Nat)) 1) where
 mem:=by simp
 obj:=fun i h st b hb=>by
  have e:b=it:=by simpa using hb
  subst e;exact ⟨_,st,fun v z=>by have z':L4 _=LH v:=z;cases z'⟩
 keep:=fun i h h' st k=>k it (by simp) _ st
 item:=by intro X hP hw hK hc i cM s σ H E I hf st hg;subst hP hw hK;obtain⟨f0,f1,f2,f3,f4,f5⟩:=hf it (by simp);have W:=Walks.range (prog:=X.prog) (w:=X.w) (I.ok.hd hc) it lo 1 n;refine W.item i s _ _ hg st fun v h' tk hv st' kk=>?_;obtain⟨t,rfl⟩:=hv;have I1:Inv X cM σ H { s with heap:=h',toks:=tk }:=I.turned (fun b o hb e=>kk b o (by simpa using hb) e) f0 f1 f3 f4 f5;refine⟨_,rfl,mq (s:={ s with heap:=h',toks:=tk }) (n := "range_iterator") st' rfl rfl (by decide) ⟨.int (lo+i),H,I1,⟨t,?_⟩,⟨rfl,rfl⟩,st',fun b hb=>(hf b hb).1⟩⟩;rw[Int.mul_one]
 done:=by intro X hP hw hK hc i cM s σ H E I hf st hg;subst hP hw hK;obtain⟨f0,f1,f2,f3,f4,f5⟩:=hf it (by simp);exact wpAny_pyNext_range_end (I.ok.hd hc) st (by have:n<=i:=hg;lia) fun h' eb=>⟨rfl,I.turned (t':=s.toks) (fun b o hb e=>eb b o hb e) f0 f1 f3 f4 f5⟩
 self:=fun _ _ _ _ _ st h=>wpAny_pyIter_rangeiter st h
end
section
variable{X:Cx}{tg:Expr}
section
variable{cM:List (Addr×Obj)}{fp:List Addr}{s:Shared}{H:Hp}{σ:St}{l:Expr}{h:Heap}{tl:TE}{ta:TA}
def oG(K:Js)(tl:TE):TI:=fun σ H R=>tl σ H fun x H1=>∃a,x=.ref a/\(∃xs,SqL K H1 a xs)/\R (Itl K a) H1
def vQ(K:Js)(tl:TE):TI:=fun σ H R=>tl σ H fun x H1=>∃a,x=.ref a/\(∃xs,SqT K H1 a xs)/\R (Itt K a) H1
theorem sM(hl:PE X l tl):PI X tg l (oG X.K tl):=by
 intro cM s σ H R I h;refine thn (hl cM s σ H _ I h) fun v s1 ⟨x,H1,I1,r1,q1⟩=>?_;obtain⟨a,e,⟨xs,hq⟩,q⟩:=q1;subst e;cases r1;obtain⟨its,rv,p,hz⟩:=I1.list hq;refine wpAny_pyIter_list p.isList ?_;refine⟨s1.heap.objs.size,[s1.heap.objs.size],_,_,H1,rfl,I1.kept (t':=s1.toks) fun b o e=>JN _ e,uD a _,⟨_,J0 _ rfl,rfl,rfl⟩,fun b hb=>?_,q⟩;have e:b=s1.heap.objs.size:=by simpa using hb
 subst e;exact I1.oF (JL _) (I1.hok.fresh (JL _))
theorem vR(hl:PE X l tl):PI X tg l (vQ X.K tl):=by
 intro cM s σ H R I h;refine thn (hl cM s σ H _ I h) fun v s1 ⟨x,H1,I1,r1,q1⟩=>?_;obtain⟨a,e,⟨xs,hq⟩,q⟩:=q1;subst e;cases r1;obtain⟨its,rv,p,hz⟩:=I1.tuple hq;refine wpAny_pyIter_tuple (show s1.heap.IsTuple a its.toArray from p) ?_;refine⟨s1.heap.objs.size,[s1.heap.objs.size],_,_,H1,rfl,I1.kept (t':=s1.toks) fun b o e=>JN _ e,qL a _,⟨_,J0 _ rfl,rfl,rfl⟩,fun b hb=>?_,q⟩;have e:b=s1.heap.objs.size:=by simpa using hb
 subst e;exact I1.oF (JL _) (I1.hok.fresh (JL _))
theorem oH{R:It->Hp->Prop}{E:Value->Shared->Prop}{lo hi:Int}{t u v:Tok}{tk:Nat}(I:Inv X cM σ H s)(h1:-(2 ^ 62)<=lo)(h2:lo<2 ^ 62)(h3:-(2 ^ 62)<=hi)(h4:hi<2 ^ 62)
  (q:R (Itr lo (hi-lo).toNat) H):wpAny (model X.prog X.w) X.A (pyIter (.ref s.heap.objs.size)) (PIE X cM σ tg R) E { s with heap:=s.heap.push { cls:=.type "range",data:=.fields #[.int lo t,.int hi u,.int 1 v] },toks:=tk }:=by
 refine wpAny_pyIter_range (IsRange.new ..) (small_one h1 h2 h3 h4) ?_;have I1:Inv X cM σ H { s with heap:=s.heap.push { cls:=.type "range",data:=.fields #[.int lo t,.int hi u,.int 1 v] },toks:=tk }:=I.kept fun b o e=>JN _ e;refine ⟨(s.heap.push { cls:=.type "range",data:=.fields #[.int lo t,.int hi u,.int 1 v] }).objs.size,[(s.heap.push { cls:=.type "range",data:=.fields #[.int lo t,.int hi u,.int 1 v] }).objs.size],_,_,H,rfl,
  I1.kept (t':=tk) fun b o e=>JN _ e,qM _ lo (hi-lo).toNat,?_,fun b hb=>?_,q⟩
 ·have e1:lo+((0:Nat):Int)*1=lo:=by simp
  have e2:(((hi-lo).toNat:Nat):Int)-((0:Nat):Int)=KJ lo hi 1:=by rw[rangeSize_one];split<;>lia
  show IsRangeIter _ _ (lo+((0:Nat):Int)*1) ((((hi-lo).toNat:Nat):Int)-((0:Nat):Int)) 1;rw[e1,e2];exact J0 _ rfl
 ·have e:b=(s.heap.push { cls:=.type "range",data:=.fields #[.int lo t,.int hi u,.int 1 v] }).objs.size:=by simpa using hb
  subst e;exact I1.oF (JL _) (I1.hok.fresh (JL _))
def Bx(ta:TA):TI:=fun σ H R=>ta σ H fun vs H1=>∃j:Int,vs=[.int j]/\-(2 ^ 62)<=j/\j<2 ^ 62/\R (Itr 0 j.toNat) H1
def By(ta:TA):TI:=fun σ H R=>ta σ H fun vs H1=>∃i j:Int,vs=[.int i,.int j]/\(-(2 ^ 62)<=i/\i<2 ^ 62/\-(2 ^ 62)<=j/\j<2 ^ 62)/\R (Itr i (j-i).toNat) H1
theorem uE{a:Expr}{p pos:Pos}(hg:Gl X "range")(hm:X.mg "range" = none)(ha:PA X [a] ta)(hs:starEach [a] X.env=[(false,eval a X.env)]:=by rfl):PI X tg (.Call (.Name "range" p) [a] [] pos) (Bx ta):=by
 intro cM s σ H R I h;refine Call_ (cX I hg hm boot_range (J2 (thn (ha pos cM s σ H _ I h) fun us s1 ⟨vs,H1,I1,r1,q1⟩=>?_) hs rfl));obtain⟨j,e,q1,q2,q⟩:=q1;subst e;cases r1 with
 |cons r rr=>cases rr;obtain⟨t,rfl⟩:=r;exact call_range_1 (oH I1 (by lia) (by lia) q1 q2 (by simpa using q))
theorem uF{a b:Expr}{p pos:Pos}(hg:Gl X "range")(hm:X.mg "range" = none)(ha:PA X [a,b] ta)(hs:starEach [a,b] X.env=[(false,eval a X.env),(false,eval b X.env)]:=by rfl)(hs2:starEach [b] X.env=[(false,eval b X.env)]:=by rfl) :
  PI X tg (.Call (.Name "range" p) [a,b] [] pos) (By ta):=by
 intro cM s σ H R I h;refine Call_ (cX I hg hm boot_range (J2 (thn (ha pos cM s σ H _ I h) fun us s1 ⟨vs,H1,I1,r1,q1⟩=>?_) (by rw[hs,hs2]) (by rw[hs2];rfl)));obtain⟨i,j,e,⟨q1,q2,q3,q4⟩,q⟩:=q1;subst e;cases r1 with
 |cons r rr=>
  cases rr with
  |cons r' rr=>cases rr;obtain⟨t,rfl⟩:=r;obtain⟨t',rfl⟩:=r';exact call_range_2 (oH I1 q1 q2 q3 q4 q)
def Fb(wi:TI)(g:TG)(tb:TS):TS:=fun D σ H=>wi σ H fun J H1=>∃W:Nat->Nat->St->Hp->Prop,(∃m,W 0 m σ H1)/\∀i m σ H,W i m σ H ->
 (J.stop i H/\D.nx σ H)\/(J.go i H/\∃N:St->Hp->Prop,(∀σ' H',N σ' H'->∃m',m'<m/\W (i+1) m' σ' H')/\∀x H',J.yld i H x H'->g x σ H' fun σ2 H2=>tb { D with nx:=N,ct:=N,bk:=D.nx } σ2 H2)
noncomputable def jP(fp:List Addr)(h:Heap):List (Addr×Obj):=fp.filterMap fun b=>(h.get? b).map fun o=>(b,o)
theorem eN{b:Addr}{o:Obj}(hb:b∈fp)(e:h.get? b=some o):(b,o)∈jP fp h:=LI.mpr ⟨b,hb,by rw[e];rfl⟩
theorem uG{p:Addr×Obj}(hp:p∈jP fp h):p.1∈fp/\h.get? p.1=some p.2:=by
 obtain⟨b,hb,e⟩:=LI.mp hp;cases q:h.get? b with
 |none=>rw[q]at e;cases e
 |some o=>rw[q]at e;have e':(b,o)=p:=Option.some.inj e;subst e';exact⟨hb,q⟩
theorem Inv.pinned(I:Inv X cM σ H s)(hf:∀b∈fp,lZ X cM H b)(ho:∀b∈fp,∃o,s.heap.get? b=some o/\∀v,o.data≠.cell v):Inv X (cM++jP fp s.heap) σ H s:=
 I.sG fun p hp=>(Ks.mp hp).elim (fun z=>I.pin p (J6 _ z)) fun z=>by obtain⟨hb,e⟩:=uG z;obtain⟨f0,f1,f2,_⟩:=hf p.1 hb;obtain⟨o,e',d⟩:=ho p.1 hb;rw[e]at e';cases e';exact⟨e,f0,f1,f2,d⟩
theorem Inv.g8{cM pl:List (Addr×Obj)}(I:Inv X (cM++pl) σ H s):Inv X cM σ H s:=I.sG fun p hp=>I.pin p (J6 _ (K7 _ hp))
theorem Cy{iter:Expr}{body:List Stmt}{wi:TI}{g:TG}{tb:TS}{pos:Pos}(hp:PassesOwn (model X.prog X.w) X.A X.env X.xe)(hc:X.calm=true)(hi:PI X tg iter wi)(hg:PG X tg g)(hb:PSs X body tb)
  (hs:∀x,foldedSetIterable iter X.env x=pure x:=by intro _;rfl):PS X (.For tg iter body [] pos) (Fb wi g tb):=by
 intro cM s σ H D I h;refine wpAny_For (thn (hi cM s σ H _ I h) fun v s1 h1=>thn h1 fun itv s2 h2=>?_) hs;obtain⟨it,fp,tn,J,H2,e,I2,T,st2,f2,W,⟨m0,w0⟩,turn⟩:=h2;subst e;have stat:∀{H':Hp},(∀b∈fp,H' b=none)->∀b∈fp,lZ X cM H' b:=fun hn b hb=>⟨hn b hb,(f2 b hb).2⟩;refine codeAny_forLoop_any (fun n s'=>∃i σ' H',Inv X cM σ' H' s'/\tn i s'.heap/\(∀b∈fp,H' b=none)/\W i n σ' H') ?_ m0 ⟨0,σ,H2,I2,st2,fun b hb=>(f2 b hb).1,w0⟩;rintro n s3 ⟨i,σ3,H3,I3,st3,fr3,w3⟩;rcases turn i n σ3 H3 w3 with⟨stop,qn⟩ | ⟨go,N,hN,step⟩
 ·refine wpAny_passesOwn hp (thn (T.done X rfl rfl rfl hc i cM s3 σ3 H3 X.xe I3 (stat fr3) st3 stop) fun r s4 ⟨hr,I4⟩=>?_);subst hr;exact wpAny_execs_nil ⟨σ3,H3,I4,qn⟩
 ·refine wpAny_passesOwn hp (thn (T.item X rfl rfl rfl hc i cM s3 σ3 H3 X.xe I3 (stat fr3) st3 go) fun r s4 ⟨u,hr,h4⟩=>?_);subst hr;refine wpAny_passesOwn hp (thn h4 fun _ s5 ⟨x,H5,I5,r5,y5,st5,fr5⟩=>?_);have I5':=I5.pinned (stat fr5) (T.obj _ _ st5);refine wpAny_passesOwn hp (thn (hg _ s5 σ3 H5 x u _ I5' r5 (step x H5 y5)) fun _ s6 ⟨σ6,H6,I6,q6⟩=>?_);refine wpAny_passesOwn hp (thn (hb _ s6 σ6 H6 _ I6 q6) fun f s7 q7=>?_);have again:∀{σ7:St} {H7:Hp},Inv X (cM++jP fp s5.heap) σ7 H7 s7->N σ7 H7->∃m,m<n/\∃i σ' H',Inv X cM σ' H' s7/\tn i s7.heap/\(∀b∈fp,H' b=none)/\W i m σ' H':=fun {σ7 H7} I7 n7=>by
   obtain⟨m',hm,w7⟩:=hN σ7 H7 n7;refine⟨m',hm,i+1,σ7,H7,I7.g8,T.keep _ _ _ st5 fun b hb o e=>(I7.pin (b,o) (J6 _ (J6 _ (eN hb e)))).1,fun b hb=>?_,w7⟩;obtain⟨o,e,d⟩:=T.obj _ _ st5 b hb;exact(I7.pin (b,o) (J6 _ (J6 _ (eN hb e)))).2.1
  cases f with
  |next=>obtain⟨σ7,H7,I7,n7⟩:=q7;exact again I7 n7
  |cont=>obtain⟨σ7,H7,I7,n7⟩:=q7;exact again I7 n7
  |brk=>obtain⟨σ7,H7,I7,q7⟩:=q7;exact⟨σ7,H7,I7.g8,q7⟩
  |ret v=>obtain⟨x7,σ7,H7,I7,r7,q7⟩:=q7;exact⟨x7,σ7,H7,I7.g8,r7,q7⟩
end
end
noncomputable abbrev R2:=V->V->Hp->VK->Prop
def OpR(X:Cx)(f:Value->Value->Sem Value)(r:R2):Prop:=
 ∀(cM:List (Addr×Obj)) (s:Shared) (σ:St) (H:Hp) (x y:V) (v u:Value) (Q:VK),Inv X cM σ H s->RelV x v->RelV y u->r x y H Q ->
  wpAny (model X.prog X.w) X.A (f v u) (EP X cM σ Q) X.xe s
def UnR(X:Cx)(f:Value->Sem Value)(r:V->Hp->VK->Prop):Prop:=
 ∀(cM:List (Addr×Obj)) (s:Shared) (σ:St) (H:Hp) (x:V) (v:Value) (Q:VK),Inv X cM σ H s->RelV x v->r x H Q ->
  wpAny (model X.prog X.w) X.A (f v) (EP X cM σ Q) X.xe s
def dg(X:Cx)(f:Value)(r:List V->Hp->VK->Prop):Prop:=
 ∀(cM:List (Addr×Obj)) (s:Shared) (σ:St) (H:Hp) (xs:List V) (us:List Value) (Q:VK),Inv X cM σ H s->Vals xs us->r xs H Q ->
  wpAny (model X.prog X.w) X.A (call f us) (EP X cM σ Q) X.xe s
def tOp(r:R2)(ta tb:TE):TE:=fun σ H Q=>ta σ H fun x H1=>tb σ H1 fun y H2=>r x y H2 Q
def tUn(r:V->Hp->VK->Prop)(ta:TE):TE:=fun σ H Q=>ta σ H fun x H1=>r x H1 Q
def rI(C:Int->Int->Prop)(g:Int->Int->V):R2:=fun x y H Q=>∃i j,x=.int i/\y=.int j/\C i j/\Q (g i j) H
def rI0(g:Int->Int->V):R2:=fun x y H Q=>∃i j,x=.int i/\y=.int j/\Q (g i j) H
def rU(g:Int->V):V->Hp->VK->Prop:=fun x H Q=>∃i,x=.int i/\Q (g i) H
section
variable{X:Cx}{a b c:Expr}{ta tb tc:TE}{pos:Pos}
theorem Cz(ha:PE X a ta)(hb:PE X b tb){cM:List (Addr×Obj)}{s:Shared}{σ:St}{H:Hp}{R:V->V->Hp->Prop}(I:Inv X cM σ H s)
  (h:ta σ H fun x H1=>tb σ H1 fun y H2=>R x y H2) {Q:Value->Shared->Prop} {f:Value->Value->Sem Value}
  (hf:∀v u s2 x y H2,Inv X cM σ H2 s2->RelV x v->RelV y u->R x y H2->wpAny (model X.prog X.w) X.A (f v u) Q X.xe s2) :
  wpAny (model X.prog X.w) X.A (eval a X.env) (fun v s₁=>wpAny (model X.prog X.w) X.A (eval b X.env) (fun u s₂=>wpAny (model X.prog X.w) X.A (f v u) Q X.xe s₂) X.xe s₁) X.xe s:=by
 refine thn (ha cM s σ H _ I h) fun v s1 ⟨x,H1,I1,r1,q1⟩=>?_;refine thn (hb cM s1 σ H1 _ I1 q1) fun u s2 ⟨y,H2,I2,r2,q2⟩=>?_;exact hf v u s2 x y H2 I2 r1 r2 q2
theorem Fc{op:Operator}{r:R2}(ho:OpR X (binaryOp op) r)(ha:PE X a ta)(hb:PE X b tb):PE X (.BinOp a op b pos) (tOp r ta tb):=by intro cM s σ H Q I h;exact wpAny_BinOp (Cz ha hb I h fun v u s2 x y H2 I2 rx ry q=>ho cM s2 σ H2 x y v u Q I2 rx ry q)
theorem Fd{op:UnaryOp}{r:V->Hp->VK->Prop}(ho:UnR X (unaryOp op) r)(ha:PE X a ta):PE X (.UnaryOp op a pos) (tUn r ta):=by intro cM s σ H Q I h;exact UnaryOp_ (thn (ha cM s σ H _ I h) fun v s1 ⟨x,H1,I1,r1,q1⟩=>ho cM s1 σ H1 x v Q I1 r1 q1)
theorem opI{f:Value->Value->Sem Value}{C:Int->Int->Prop}{g:Int->Int->Int}
  (rule:∀(i j:Int) (t u:Tok) (s:Shared) (Q:Value->Shared->Prop) (E:Value->Shared->Prop),C i j->Q (.int (g i j) s.toks) { s with toks:=s.toks+1 }->wpAny (model X.prog X.w) X.A (f (.int i t) (.int j u)) Q E s) :
  OpR X f (rI C fun i j=>.int (g i j)):=by
 intro cM s σ H x y v u Q I rx ry h;obtain⟨i,j,rfl,rfl,hc,q⟩:=h;obtain⟨t,rfl⟩:=rx;obtain⟨t',rfl⟩:=ry;exact rule i j t t' s _ _ hc ⟨.int (g i j),H,I.tok _,⟨_,rfl⟩,q⟩
theorem Fe{f:Value->Value->Sem Value}{g:Int->Int->Int}
  (rule:∀(i j:Int) (t u:Tok) (s:Shared) (Q:Value->Shared->Prop) (E:Value->Shared->Prop),Q (.int (g i j) s.toks) { s with toks:=s.toks+1 }->wpAny (model X.prog X.w) X.A (f (.int i t) (.int j u)) Q E s) :
  OpR X f (rI0 fun i j=>.int (g i j)):=by
 intro cM s σ H x y v u Q I rx ry h;obtain⟨i,j,rfl,rfl,q⟩:=h;obtain⟨t,rfl⟩:=rx;obtain⟨t',rfl⟩:=ry;exact rule i j t t' s _ _ ⟨.int (g i j),H,I.tok _,⟨_,rfl⟩,q⟩
theorem CA{f:Value->Value->Sem Value}{g:Int->Int->Bool}
  (rule:∀(i j:Int) (t u:Tok) (s:Shared) (Q:Value->Shared->Prop) (E:Value->Shared->Prop),Q (.bool (g i j)) s->wpAny (model X.prog X.w) X.A (f (.int i t) (.int j u)) Q E s) :
  OpR X f (rI0 fun i j=>.bl (g i j)):=by
 intro cM s σ H x y v u Q I rx ry h;obtain⟨i,j,rfl,rfl,q⟩:=h;obtain⟨t,rfl⟩:=rx;obtain⟨t',rfl⟩:=ry;exact rule i j t t' s _ _ ⟨.bl (g i j),H,I,rfl,q⟩
def Ff(i j:Int):Prop:=0<=j/\j<=1000000/\i.natAbs<2 ^ 64
def vS(i j:Int):Prop:=(-(2 ^ 64)<i/\i<2 ^ 64)\/(-(2 ^ 64)<j/\j<2 ^ 64)
theorem vS.ok{i j:Int}(h:vS i j):IntMulOk i j:=by
 rcases h with⟨h1,h2⟩ | ⟨h1,h2⟩
 ·exact .of_left (intBits_le_64 h1 h2)
 ·exact .of_right (intBits_le_64 h1 h2)
theorem CB:OpR X (binaryOp .Add) (rI0 fun i j=>.int (i+j)):=Fe fun _ _ _ _ _ _ _ q=>add_int q
theorem CC:OpR X (binaryOp .Sub) (rI0 fun i j=>.int (i-j)):=Fe fun _ _ _ _ _ _ _ q=>sub_int q
theorem CD:OpR X (binaryOp .Mult) (rI vS fun i j=>.int (i*j)):=opI fun _ _ _ _ _ _ _ hc q=>mul_int q hc.ok
theorem CF:OpR X (binaryOp .Mod) (rI (fun _ j=>0<j) fun i j=>.int (i % j)):=opI fun i j _ _ _ _ _ hc q=>by have h1:(0:Int)<j:=hc;exact mod_int' (by lia) (by rw[Int.fmod_eq_emod_of_nonneg i (by lia)];exact q)
theorem CG:OpR X (binaryOp .Pow) (rI Ff fun i j=>.int (i ^ j.toNat)):=opI fun _ _ _ _ _ _ _ hc q=>pow_int_small hc.1 hc.2.1 hc.2.2 q
theorem unI{f:Value->Sem Value}{g:Int->Int}
  (rule:∀(i:Int) (t:Tok) (s:Shared) (Q:Value->Shared->Prop) (E:Value->Shared->Prop),Q (.int (g i) s.toks) { s with toks:=s.toks+1 }->wpAny (model X.prog X.w) X.A (f (.int i t)) Q E s) :
  UnR X f (rU fun i=>.int (g i)):=by
 intro cM s σ H x v Q I rx h;obtain⟨i,rfl,q⟩:=h;obtain⟨t,rfl⟩:=rx;exact rule i t s _ _ ⟨.int (g i),H,I.tok _,⟨_,rfl⟩,q⟩
theorem CH:UnR X (unaryOp .USub) (rU fun i=>.int (-i)):=unI fun _ _ _ _ _ q=>neg_int q
end
section
variable{X:Cx}{a b c:Expr}{ta tb tc:TE}{pos:Pos}
theorem CI{cM:List (Addr×Obj)}{σ:St}{H:Hp}{s:Shared}{Q:VK}{k k':Bool}(I:Inv X cM σ H s)(q:Q (.bl k) H)(e:k=k'):EP X cM σ Q (.bool k') s:=by subst e;exact⟨.bl k,H,I,rfl,q⟩
theorem BA:OpR X (compareOp .Lt) (rI0 fun i j=>.bl (decide (i<j))):=CA fun _ _ _ _ _ _ _ q=>lt_int q
theorem oJ:OpR X (compareOp .LtE) (rI0 fun i j=>.bl (decide (i<=j))):=CA fun _ _ _ _ _ _ _ q=>le_int q
theorem Fg:OpR X (compareOp .Gt) (rI0 fun i j=>.bl (decide (j<i))):=CA fun _ _ _ _ _ _ _ q=>gt_int q
theorem uH:OpR X (compareOp .In) (fun x y H Q=>∃i j,x=.str i/\y=.str j/\Q (.bl (!(KL j i 0 j.length 1).isEmpty)) H):=by intro cM s σ H x y v u Q I rx ry h;obtain⟨i,j,rfl,rfl,q⟩:=h;obtain⟨t,rfl⟩:=rx;obtain⟨t',rfl⟩:=ry;exact in_str (CI I q rfl)
theorem OpR.or{f:Value->Value->Sem Value}{r r':R2}(h:OpR X f r)(h':OpR X f r'):OpR X f (fun x y H Q=>r x y H Q\/r' x y H Q):=by
 intro cM s σ H x y v u Q I rx ry q;rcases q with q | q
 ·exact h cM s σ H x y v u Q I rx ry q
 ·exact h' cM s σ H x y v u Q I rx ry q
theorem f6(b:Expr){op:CmpOp}(h:op≠.In:=by decide)(h2:op≠.NotIn:=by decide):behindInMarks op b=false:=by
 have e1:(op == CmpOp.In)=false:=by cases op<;>first | rfl | exact absurd rfl h
 have e2:(op == CmpOp.NotIn)=false:=by cases op<;>first | rfl | exact absurd rfl h2
 cases b<;>simp[behindInMarks,e1,e2]
theorem zD{op:CmpOp}{r:R2}(ho:OpR X (compareOp op) r)(ha:PE X a ta)(hb:PE X b tb)(hm:behindInMarks op b=false):PE X (.Compare a [op] [b] pos) (tOp r ta tb):=by intro cM s σ H Q I h;exact wpAny_Compare1 (Cz ha hb I h fun v u s2 x y H2 I2 rx ry q=>ho cM s2 σ H2 x y v u Q I2 rx ry q) hm
def vU(t:TE):TT:=fun σ H Q=>t σ H fun x H'=>∃k,x=.bl k/\Q k H'
theorem zF{op:CmpOp}{r:R2}(ho:OpR X (compareOp op) r)(ha:PE X a ta)(hb:PE X b tb)(hm:behindInMarks op b=false):PT X (.Compare a [op] [b] pos) (vU (tOp r ta tb)):=by
 intro cM s σ H Q I h;refine wpAny_isTrue_Compare1 (thn (ha cM s σ H _ I h) fun v s1 ⟨x,H1,I1,r1,q1⟩=>thn (hb cM s1 σ H1 _ I1 q1) fun u s2 ⟨y,H2,I2,r2,q2⟩=>thn (ho cM s2 σ H2 x y v u _ I2 r1 r2 q2) fun c s3 ⟨z,H3,I3,r3,k,e,q3⟩=>?_) hm
 subst e;cases r3;exact wpAny_truthy_bool ⟨H3,I3,q3⟩
def qN(r r':R2)(ta tb tc:TE):TE:=fun σ H Q=>ta σ H fun x H1=>tb σ H1 fun y H2=>r x y H2 fun z H3=>∃k,z=.bl k /\
 (if k=true then tc σ H3 fun w' H4=>r' y w' H4 Q else Q (.bl false) H3)
theorem vV{op op':CmpOp}{r r':R2}(ho:OpR X (compareOp op) r)(ho':OpR X (compareOp op') r')(ha:PE X a ta)(hb:PE X b tb)(hc:PE X c tc)
  (hm:lastMarks [op,op'] [b,c]=false:=by with_unfolding_all rfl):PE X (.Compare a [op,op'] [b,c] pos) (qN r r' ta tb tc):=by
 intro cM s σ H Q I h;refine Compare_chain (thn (ha cM s σ H _ I h) fun v s1 ⟨x,H1,I1,r1,q1⟩=>chain_link (thn (hb cM s1 σ H1 _ I1 q1) fun u s2 ⟨y,H2,I2,r2,q2⟩=>thn (ho cM s2 σ H2 x y v u _ I2 r1 r2 q2) fun d s3 ⟨z,H3,I3,r3,k,e,q3⟩=>?_)) hm
 subst e;cases r3;refine wpAny_truthy_bool ?_;cases k with
 |false=>exact ite_ff ⟨.bl false,H3,I3,rfl,q3⟩
 |true=>exact ite_tt (chain_last (thn (hc cM s3 σ H3 _ I3 q3) fun w' s4 ⟨z',H4,I4,r4,q4⟩=>ho' cM s4 σ H4 y z' u w' Q I4 r2 r4 q4))
theorem vW{op op':CmpOp}{r r':R2}(ho:OpR X (compareOp op) r)(ho':OpR X (compareOp op') r')(ha:PE X a ta)(hb:PE X b tb)(hc:PE X c tc)
  (hm:lastMarks [op,op'] [b,c]=false:=by with_unfolding_all rfl):PT X (.Compare a [op,op'] [b,c] pos) (vU (qN r r' ta tb tc)):=by
 intro cM s σ H Q I h;refine isTrue_chain (thn (ha cM s σ H _ I h) fun v s1 ⟨x,H1,I1,r1,q1⟩=>test_link (thn (hb cM s1 σ H1 _ I1 q1) fun u s2 ⟨y,H2,I2,r2,q2⟩=>thn (ho cM s2 σ H2 x y v u _ I2 r1 r2 q2) fun d s3 ⟨z,H3,I3,r3,k,e,q3⟩=>?_)) hm
 subst e;cases r3;refine wpAny_truthy_bool ?_;cases k with
 |false=>obtain⟨k',e',q'⟩:=q3;cases e';exact ite_ff ⟨H3,I3,q'⟩
 |true=>refine ite_tt (test_last (thn (hc cM s3 σ H3 _ I3 q3) fun w' s4 ⟨z',H4,I4,r4,q4⟩=>thn (ho' cM s4 σ H4 y z' u w' _ I4 r2 r4 q4) fun d' s5 ⟨z2,H5,I5,r5,k2,e2,q5⟩=>?_));subst e2;cases r5;exact wpAny_truthy_bool ⟨H5,I5,q5⟩
theorem iJ:(sizeLine:Nat)<2 ^ 63:=by rw[sizeLine_eq];decide
theorem qO:OpR X (binaryOp .Add) (fun x y H Q=>∃i j,x=.str i/\y=.str j/\i.length+j.length<=sizeLine/\Q (.str (i++j)) H):=by intro cM s σ H x y v u Q I rx ry h;obtain⟨i,j,rfl,rfl,hz,q⟩:=h;obtain⟨t,rfl⟩:=rx;obtain⟨t',rfl⟩:=ry;exact add_str (fun t' tk=>⟨.str (i++j),H,I.tok _,⟨_,rfl⟩,q⟩) hz
theorem vals1{x:V}{us:List Value}(r:Vals [x] us):∃u,us=[u]/\RelV x u:=by
 cases r with
 |cons r1 r2=>cases r2;exact⟨_,rfl,r1⟩
theorem vals2{x y:V}{us:List Value}(r:Vals [x,y] us):∃u w',us=[u,w']/\RelV x u/\RelV y w':=by
 cases r with
 |cons r1 r2=>
  cases r2 with
  |cons r3 r4=>cases r4;exact⟨_,_,rfl,r1,r3⟩
theorem uI(hc:X.calm=true):dg X (.builtin "max") (fun xs H Q=>∃i j,xs=[.int i,.int j]/\Q (.int (if j>i then j else i)) H):=by
 intro cM s σ H xs us Q I r h;obtain⟨i,j,rfl,q⟩:=h;obtain⟨u,w',rfl,⟨t,rfl⟩,⟨t',rfl⟩⟩:=vals2 r;refine max_two_ints (I.ok.hd hc) fun h' tk k=>⟨_,H,I.kept k,?_,q⟩;by_cases hj:j>i
 ·rw[if_pos hj,if_pos hj];exact⟨_,rfl⟩
 ·rw[if_neg hj,if_neg hj];exact⟨_,rfl⟩
theorem uJ(hc:X.calm=true):dg X (.builtin "min") (fun xs H Q=>∃i j,xs=[.int i,.int j]/\Q (.int (if j<i then j else i)) H):=by
 intro cM s σ H xs us Q I r h;obtain⟨i,j,rfl,q⟩:=h;obtain⟨u,w',rfl,⟨t,rfl⟩,⟨t',rfl⟩⟩:=vals2 r;refine min_two_ints (I.ok.hd hc) fun h' tk k=>⟨_,H,I.kept k,?_,q⟩;by_cases hj:j<i
 ·rw[if_pos hj,if_pos hj];exact⟨_,rfl⟩
 ·rw[if_neg hj,if_neg hj];exact⟨_,rfl⟩
theorem uK:dg X (.type "int") (fun xs H Q=>(∃i,xs=[.int i]/\Q (.int i) H)\/∃k,xs=[.bl k]/\Q (.int (if k then 1 else 0)) H):=by
 intro cM s σ H xs us Q I r h;rcases h with⟨i,rfl,q⟩ | ⟨k,rfl,q⟩
 ·obtain⟨u,rfl,t,rfl⟩:=vals1 r;exact call_int_int ⟨.int i,H,I,⟨_,rfl⟩,q⟩
 ·obtain⟨u,rfl,r1⟩:=vals1 r;cases r1;exact call_int_bool ⟨.int (if k then 1 else 0),H,I.tok _,⟨_,rfl⟩,q⟩
end
section
variable{mA:Str->Option Value}{h:Heap}
structure CJ(h:Heap)(x dx C:Addr)(mA:Str->Option Value):Prop where
 obj:h.get? x=some (LZ C dx)
 ns:h.Ns1 dx mA
 ne:dx≠x
theorem uL{dx:Addr}(n:h.Ns1 dx mA):∃od,h.get? dx=some od/\∀name,L7 name od=some (mA name):=by
 obtain⟨o,es,ep,ho,hd,hk,_,hm⟩:=n;refine⟨o,ho,fun name=>?_⟩;have e:=hm name;unfold nsFind findBy at e;rw[<- Array.find?_toList]at e;unfold L7;rw[hd];dsimp only;split
 ·rename_i y q;rw[q]at e;exact congrArg some e
 ·rename_i q;rw[q]at e;have a:es.toList.any (·.refKey)=false:=by
   rw[List.any_eq_false];intro y hy;obtain⟨z,t,hkey⟩:=hk y (Array.mem_toList_iff.mp hy);simp[DictEntry.refKey,hkey]
  have a':¬es.toList.any (·.refKey)=true:=by rw[a];exact J1
  rw[if_neg a'];exact congrArg some e
theorem CJ.look{x dx C:Addr}(I:CJ h x dx C mA):∃od,PySem.W.InstAt h x (LZ C dx) C (some od)/\∀name,L7 name od=some (mA name):=
 let ⟨od,ho,hl⟩:=uL I.ns
 ⟨od,⟨I.obj,rfl,rfl,ho⟩,hl⟩
end
section
variable{P:Program}{w:World}{H H':Hp}{h h':Heap}{a C dx:Addr}{fs fs':List (Str×V)}
theorem zG(hok:HOk P w H h)(e:H a=some (.ins C dx fs)):∃mA,CJ h a dx C mA/\(∀f,Cm (fs.lookup f) (mA f))/\PySem.Within mA (fs.map (·.1))/\fs.length<=1000/\H dx=some (.own a):=by
 obtain⟨d,z,ne,ob,mA,n,r,q⟩:=(show bX P w H h a (.ins C dx fs) from hok a _ e)
 exact⟨mA,⟨ob,n,ne⟩,r,q,z,d⟩
end
structure Cls(K:Js)(C:Addr):Prop where
 pg:PySem.W.plainGet K C Str.empty=true
 hd:PySem.W.hasDictIn K C=true
 po:PySem.W.plainOver K C=true
 sa:PySem.W.findIn K (.ref C) "__setattr__" = some (some (.builtin "object.__setattr__"))
theorem Cls.get{K:Js}{C:Addr}(c:Cls K C)(f:Str):PySem.W.plainGet K C f=true:=c.pg
section
variable{X:Cx}{cM:List (Addr×Obj)}{σ:St}{H:Hp}{s:Shared}{A:Around}{E:Value->Shared->Prop}{Q:Value->Shared->Prop}{c:Value}{b:Bool}
inductive g9(K:Js)(H:Hp):V->Value->Prop where
 |non:g9 K H .non (.type "NoneType")
 |bl (x:Bool):g9 K H (.bl x) (.type "bool")
 |int (i:Int):g9 K H (.int i) (.type "int")
 |str (x:Str):g9 K H (.str x) (.type "str")
 |flt (x:UInt64):g9 K H (.flt x) (.type "float")
 |lst {a:Addr} {xs:List V} (e:H a=some (.lst xs)):g9 K H (.ref a) (.type "list")
 |frz {a:Addr} {o:Obj} {xs:List V} (e:H a=some (.frz o (.lst xs))):g9 K H (.ref a) (.type "list")
 |tup {a:Addr} {xs:List V} (e:H a=some (.tup xs)):g9 K H (.ref a) (.type "tuple")
 |dK {a:Addr} {kvs:List (Key×V)} (e:H a=some (.dK kvs)):g9 K H (.ref a) (.type "dict")
 |dT {a:Addr} {kvs:List (List Key×V)} {ts:List Addr} (e:H a=some (.dT kvs ts)):g9 K H (.ref a) (.type "dict")
 |ins {a C dx:Addr} {fs:List (Str×V)} (e:H a=some (.ins C dx fs)) (cl:Cls K C) (ha:PySem.W.findIn K (.ref C) "__class__" = some (some (.builtin "object.__class__")))
   (hn:PySem.W.specialIn K (.builtin "object.__class__") "__get__" = some (some (.builtin "getset_descriptor.__get__"))) (htk:PySem.W.takesIn K (.builtin "object.__class__")=some true)
   (hm:PySem.W.mroIn K C (.type "object")=some true):g9 K H (.ref a) (.ref C)
theorem uM{x:V}{u t:Value}(I:Inv X cM σ H s)(rx:RelV x u)(ty:g9 X.K H x t)(e:L8 X.K t c=some b)(h:∀tk,Q (.bool b) { s with toks:=tk }) :
  wpAny (model X.prog X.w) A (call (.builtin "isinstance") [u,c]) Q E s:=by
 cases ty with
 |non=>cases (show u=Value.none from rx);exact Kp PySem.W.kitx_none I.kIn LW e (fun z=>nomatch z) h
 |bl y=>cases (show u=Mj y from rx);exact Kp PySem.W.kitx_bool I.kIn LW e (fun z=>nomatch z) h
 |int i=>obtain⟨t,q⟩:=(show ∃t,u=Ml i t from rx);cases q;exact Kp PySem.W.kitx_int I.kIn LW e (fun z=>nomatch z) h
 |str y=>obtain⟨t,q⟩:=(show ∃t,u=Lf y t from rx);cases q;exact Kp PySem.W.kitx_str I.kIn LW e (fun z=>nomatch z) h
 |flt y=>obtain⟨t,q⟩:=(show ∃t,u=Value.float y t from rx);cases q;exact Kp PySem.W.kitx_float I.kIn LW e (fun z=>nomatch z) h
 |@lst a xs ea=>
  cases (show u=K6 a from rx);obtain⟨_,_,n,_,h1⟩:=(show bX X.prog X.w H s.heap a (.lst xs) from I.hok a _ ea)
  exact Kp PySem.W.kitx_list I.kIn ⟨_,h1,rfl⟩ e (fun z=>nomatch z) h
 |@frz a ob xs ea=>
  cases (show u=K6 a from rx);obtain⟨_,_,_,n,_,h1⟩:=(show bX X.prog X.w H s.heap a (.frz ob (.lst xs)) from I.hok a _ ea)
  exact Kp PySem.W.kitx_list I.kIn ⟨_,h1,rfl⟩ e (fun z=>nomatch z) h
 |@tup a xs ea=>
  cases (show u=K6 a from rx);obtain⟨_,_,_,p⟩:=(show bX X.prog X.w H s.heap a (.tup xs) from I.hok a _ ea)
  obtain⟨o,h1,h2,_⟩:=p;exact Kp PySem.W.kitx_tuple I.kIn ⟨o,h1,h2⟩ e (fun z=>nomatch z) h
 |@dK a kvs ea=>
  cases (show u=K6 a from rx);obtain⟨_,_,vs,_,p⟩:=(show bX X.prog X.w H s.heap a (.dK kvs) from I.hok a _ ea)
  obtain⟨o,es,ep,h1,h2,_⟩:=p;exact Kp PySem.W.kitx_dict I.kIn ⟨o,h1,h2.1⟩ e (fun z=>nomatch z) h
 |@dT a kvs ts ea=>
  cases (show u=K6 a from rx);obtain⟨_,_,xs,_,o,es,ep,h1,h2,_⟩:=(show bX X.prog X.w H s.heap a (.dT kvs ts) from I.hok a _ ea)
  exact Kp PySem.W.kitx_dict I.kIn ⟨o,h1,h2.1⟩ e (fun z=>nomatch z) h
 |@ins a C dx fs ea cl ha hn htk hm=>cases (show u=K6 a from rx);obtain⟨mA,O,_⟩:=zG I.hok ea;obtain⟨od,J,_⟩:=O.look;exact Kp (PySem.W.kitx_own (cl.get _) cl.hd ha hn htk hm) I.kIn J e (fun z=>nomatch z) h
end
section
variable{A:Around}{k:Nat}
structure cj(k:Nat)(A:Around):Prop where
 hd:A.handled=none
 dp:A.depth+3*k+5<recursionLimit
 un:A.units+16*k+200<cLine
 gd:A.guards=some []
theorem cj.mono{j k:Nat}(r:cj k A)(h:j<=k):cj j A:=⟨r.hd,by have:=r.dp;lia,by have:=r.un;lia,r.gd⟩
theorem cj.deeper(r:cj (k+1) A)(env:Env):cj k (A.deeper env):=
 ⟨r.hd,by have:=r.dp;show A.depth+1+3*k+5<_;lia,by have:=r.un;show A.units+3+16*k+200<_;lia,r.gd⟩
theorem cj.depth(r:cj k A):A.depth<recursionLimit:=by have:=r.dp;lia
theorem cj.units(r:cj k A):A.units+64<cLine:=by have:=r.un;lia
def zH:TA:=fun _ H Q=>Q [] H
def oK(ta:TE)(tr:TA):TA:=fun σ H Q=>ta σ H fun x H1=>tr σ H1 fun xs H2=>Q (x::xs) H2
end
section
variable{X:Cx}{e:Expr}{es:List Expr}{te:TE}{t:TA}{pos:Pos}
theorem qP:PA X [] zH:=fun _ _ _ _ H Q I h=>K0 ⟨[],H,I,.nil,h⟩
theorem jG(ha:PE X e te)(hr:PA X es t)(hs:starEach (e::es) X.env=(false,eval e X.env)::starEach es X.env:=by rfl):PA X (e::es) (oK te t):=by intro pos cM s σ H Q I h;rw[hs];show wpAny _ _ (spliced ((false,eval e X.env)::backTo pos (starEach es X.env))) _ _ s;refine Calls.spliced_cons (thn (ha cM s σ H _ I h) fun u s1 ⟨x,H1,I1,r1,q1⟩=>?_);exact thn (hr pos cM s1 σ H1 _ I1 q1) fun us s2 ⟨xs,H2,I2,r2,q2⟩=>⟨x::xs,H2,I2,.cons r1 r2,q2⟩
def CK(t:TA):TE:=fun σ H Q=>t σ H fun xs H1=>xs.length<=sizeLine/\∀p,H1 p=none->Q (.ref p) (upd H1 p (.tup xs))
def Fi(t:TA):TE:=fun σ H Q=>t σ H fun xs H1=>xs.length<=sizeLine/\∀p,H1 p=none->Q (.ref p) (upd H1 p (.lst xs))
theorem vX{x1}(h:PA X es t):PE X (.Tuple es x1 pos) (CK t):=by intro cM s σ H Q I hq;refine wpAny_Tuple_spliced (thn (h pos cM s σ H _ I hq) fun us s1 ⟨xs,H1,I1,r,z,q⟩=>⟨by rw[<- r.length];exact z,?_⟩);have hf:H1 s1.heap.objs.size=none:=I1.hok.fresh (JL _);refine⟨.ref s1.heap.objs.size,upd H1 s1.heap.objs.size (.tup xs),I1.laid (t':=s1.toks) (fun b u e=>JN _ e) (JL _) ?_,rfl,q _ hf⟩;exact⟨z,us,r,⟨_,J0 _ rfl,rfl,_,rfl⟩⟩
theorem CL(h:PA X es t):PE X (.List es pos) (Fi t):=by intro cM s σ H Q I hq;refine wpAny_List_spliced (thn (h pos cM s σ H _ I hq) fun us s1 ⟨xs,H1,I1,r,z,q⟩=>⟨by rw[<- r.length];exact z,?_⟩);have hf:H1 s1.heap.objs.size=none:=I1.hok.fresh (JL _);refine⟨.ref s1.heap.objs.size,upd H1 s1.heap.objs.size (.lst xs),I1.laid (t':=s1.toks) (fun b u e=>JN _ e) (JL _) ?_,rfl,q _ hf⟩;exact⟨z,us,0,r,J0 _ rfl⟩
end
noncomputable abbrev Sp:=List V->Hp->VK->XK->Prop
noncomputable abbrev CXT:=List Env->Hp->Shared->XK->Value->Shared->Prop
structure zI(P:Program)(w:World)(K:Js)(mg:Str->Option Value)(base:Heap)(A:Around)(outer:List Env)(s:Shared)(H:Hp):Prop where
 frames:A.frames=some outer
 mod:Mod K mg base
 bs:∀b o,base.get? b=some o->s.heap.get? b=some o/\H b=none
 bsz:base.objs.size<=s.heap.objs.size
 jN:s.heap.FunFrames base outer
 frf:∀b∈frs outer,H b=none
 hok:HOk P w H s.heap
 bare:AllBare s.gens
def CE(outer:List Env)(P:Program)(w:World)(H:Hp)(s:Shared)(Q:VK)(u:Value)(s':Shared):Prop:=
 ∃v H',s'.os=s.os/\AllBare s'.gens/\Un (frs outer) [] H H' s.heap s'.heap/\HOk P w H' s'.heap/\RelV v u/\Q v H'
def CR(CX:CXT)(outer:List Env)(P:Program)(w:World)(H:Hp)(s:Shared)(Q:VK)(E:XK)(r:Result)(s':Shared):Prop:=
 match r with
 |.ok (.ret u)=>CE outer P w H s Q u s'
 |.ok _=>False
 |.error e=>CX outer H s E e s'
structure bK(P:Program)(w:World)(K:Js)(mg:Str->Option Value)(base:Heap)(CX:CXT)(k:Nat)(f:Addr)(fd:FuncData)(ps:List Str)(sp:Sp):Prop where
 len:∀vs H Q E,sp vs H Q E->vs.length=ps.length
 run:∀(A:Around) (outer:List Env) (s:Shared) (H:Hp) (args:Args) (us:List Value) (vs:List V) (Q:VK) (E:XK),cj k A->zI P w K mg base A outer s H->BindsTo s fd args (ps.zip us)->Vals vs us->sp vs H Q E ->
  codeAny (model P w) A (.call (.ref f) args) (CR CX outer P w H s Q E) s
section
variable{X:Cx}{cM:List (Addr×Obj)}{σ:St}{H:Hp}{s s':Shared}
theorem Inv.Ic(I:Inv X cM σ H s):zI X.prog X.w X.K X.mg X.base X.A X.stack s H:=
 ⟨I.ok.frames,I.ok.mod,I.bs,JU I.ok.bsz I.sz,I.stack,I.sF,I.hok,I.bare⟩
theorem Inv.after{Q:VK}{u:Value}(I:Inv X cM σ H s)(h:CE X.stack X.prog X.w H s Q u s'):EP X cM σ Q u s':=by obtain⟨v,H',os,bare,un,hok,r,q⟩:=h;obtain⟨hh,g,d,t,os'⟩:=s';obtain rfl:os'=s.os:=os;exact⟨v,H',I.call (h':=hh) (g':=g) (d':=d) (t':=t) (ch:=[]) un hok bare (fun b z=>absurd z (by simp)),r,q⟩
end
def sN(sp:Sp)(dvs:List V)(E:XK)(t:TA):TE:=fun σ H Q=>t σ H fun vs H1=>sp (vs++dvs) H1 Q E
def Binds(K:Js)(fd:FuncData)(ps:List Str)(ds:List Value):Prop:=
 ∀(s:Shared) (us:List Value),K.In s.heap->(us++ds).length=ps.length->BindsTo s fd ⟨us,[]⟩ (ps.zip (us++ds))
theorem Binds.all{K:Js}{fd:FuncData}{ps:List Str}(h:∀us:List Value,us.length=ps.length->bindArgs fd ⟨us,[]⟩=pure (ps.zip us)):Binds K fd ps []:=fun s us _ hl=>by rw[Ke]at hl ⊢;exact .of_eq (h us hl)
def Passes(CX:CXT)(X:Cx)(E:XK):Prop:=∀(cM:List (Addr×Obj)) (σ:St) (H:Hp) (s:Shared) (e:Value) (s':Shared),Inv X cM σ H s->CX X.stack H s E e s'->X.xe e s'
section
variable{X:Cx}{CX:CXT}{k:Nat}{f C:Addr}{fd:FuncData}{ps:List Str}{sp:Sp}{dvs:List V}{ds:List Value}{E:XK}{x m:Str}{p pos NW:Pos}{e o:Expr}{es:List Expr}{ta:TE}{t:TA}
theorem CM{cM:List (Addr×Obj)}{σ:St}{H:Hp}{s:Shared}{Q:VK}{us:List Value}{vs:List V}(F:bK X.prog X.w X.K X.mg X.base CX k f fd ps sp)(hr:cj k X.A)(hb:Binds X.K fd ps ds)(hd:Vals dvs ds)(hx:Passes CX X E)
  (I:Inv X cM σ H s) (r:Vals vs us) (h:sp (vs++dvs) H Q E):wpAny (model X.prog X.w) X.A (call (.ref f) us) (EP X cM σ Q) X.xe s:=by
 have r2:Vals (vs++dvs) (us++ds):=r.append hd;have hl:(us++ds).length=ps.length:=by rw[<- r2.length];exact F.len _ _ _ _ h
 refine wpAny_call (codeAny_mono (F.run X.A X.stack s H ⟨us,[]⟩ (us++ds) (vs++dvs) Q E hr I.Ic (hb s us I.kIn hl) r2 h) fun r s' hq=>?_);cases r with
 |error e=>exact hx cM σ H s e s' I hq
 |ok fl=>
  cases fl with
  |ret u=>exact I.after hq
  |next=>exact J7 hq
  |brk=>exact J7 hq
  |cont=>exact J7 hq
theorem nh(F:bK X.prog X.w X.K X.mg X.base CX k f fd ps sp)(hr:cj k X.A)(hg:Gl X x)(hm:X.mg x=some (.ref f))(hk:KQ X.K (.ref f)=true)(hb:Binds X.K fd ps ds)(hd:Vals dvs ds)(hx:Passes CX X E)
  (ha:PA X (e::es) t) (NV:(x == ("__debug__" : Str))=false:=by decide) (he:starEach (e::es) X.env=(false,eval e X.env)::starEach es X.env:=by rfl) (En:(backTo pos (starEach es X.env)).any (·.1)=false:=by rfl) :
  PE X (.Call (.Name x p) (e::es) [] pos) (sN sp dvs E t):=by
 intro cM s σ H Q I h;refine wpAny_Call_Name_kw (sH I hg hm ?_ NV);refine PySem.W.callWith_K (h₀:=X.base) I.ok.mod.kin hk (thn (ha pos cM s σ H _ I h) fun us s1 ⟨vs,H1,I1,r,q⟩=>⟨I1.kIn,?_⟩) he En;exact CM F hr hb hd hx I1 r q
end
section
variable{x:Str}{v:Value}
structure aF(N P:List Str)(sc:Scope):Prop where
 kind:sc.kind=.function
 co:sc.isCoroutine=false
 gen:sc.isGenerator=false
 nd:N.Nodup
 pre:N.take P.length=P
 par:∀x∈P,sc.names.lookup x=some .local\/sc.names.lookup x=some .cell
 CN:∀y∈sc.names,y.2≠.free
theorem mz{kindOf:Str->Option NameKind}:∀{binds:List (Str×Value)} {m:Str->Option Value},(∀v,(x,v)∉binds)->bindL kindOf binds m x=m x
 |[],_,_=>rfl
 |(n,v)::r,m,h=>by
  unfold bindL;rw[mz fun w hw=>h w (JK _ hw)];split
  ·have:x≠n:=by rintro rfl;exact h v JJ
   simp[this]
  ·rfl
theorem mC{kindOf:Str->Option NameKind}:∀{binds:List (Str×Value)} {m:Str->Option Value},(∀v,(x,v)∉binds)->bindC kindOf binds m x=m x
 |[],_,_=>rfl
 |(n,v)::r,m,h=>by
  unfold bindC;rw[mC fun w hw=>h w (JK _ hw)];split
  ·rfl
  ·have:x≠n:=by rintro rfl;exact h v JJ
   simp[this]
theorem mD{kindOf:Str->Option NameKind}:∀{P:List Str} {vs:List Value} {i:Nat} {m:Str->Option Value},P.Nodup->P[i]?=some x->vs[i]?=some v->kindOf x=some .local ->
  bindL kindOf (P.zip vs) m x=some v
 |[],_,_,_,_,h,_,_=>by simp at h
 |_::_,[],_,_,_,_,h,_=>by simp at h
 |p::P,w::vs,0,m,nd,h1,h2,hk=>by simp at h1 h2;subst h1;subst h2;show bindL kindOf ((p,w)::P.zip vs) m p=_;unfold bindL;rw[mz fun v hv=>(Lw.mp nd).1 (Ld hv).1,if_pos hk];simp
 |p::P,w::vs,i+1,m,nd,h1,h2,hk=>by show bindL kindOf ((p,w)::P.zip vs) m x=_;unfold bindL;exact mD (i:=i) (Lw.mp nd).2 (by simpa using h1) (by simpa using h2) hk
theorem mE{kindOf:Str->Option NameKind}:∀{P:List Str} {vs:List Value} {i:Nat} {m:Str->Option Value},P.Nodup->P[i]?=some x->vs[i]?=some v->kindOf x≠some .local ->
  bindC kindOf (P.zip vs) m x=some v
 |[],_,_,_,_,h,_,_=>by simp at h
 |_::_,[],_,_,_,_,h,_=>by simp at h
 |p::P,w::vs,0,m,nd,h1,h2,hk=>by simp at h1 h2;subst h1;subst h2;show bindC kindOf ((p,w)::P.zip vs) m p=_;unfold bindC;rw[mC fun v hv=>(Lw.mp nd).1 (Ld hv).1,if_neg hk];simp
 |p::P,w::vs,i+1,m,nd,h1,h2,hk=>by show bindC kindOf ((p,w)::P.zip vs) m x=_;unfold bindC;exact mE (i:=i) (Lw.mp nd).2 (by simpa using h1) (by simpa using h2) hk
noncomputable def start(N:List Str)(vs:List V):St:=vs.map some++gc (N.length-vs.length) none
noncomputable def qQ(CX:CXT)(P:Program)(w:World)(K:Js)(mg:Str->Option Value)(base:Heap)(N:List Str)(qual:Str)(scope:Scope)(f:Addr)(cd:Value)(A:Around)(outer:List Env)(s:Shared)(H:Hp)(E:XK):Cx where
 prog:=P
 w:=w
 K:=K
 mg:=mg
 base:=base
 A:=A.deeper (envOfC qual scope s.heap.objs.size f cd)
 N:=N
 s₀:=s
 H₀:=H
 env:=envOfC qual scope s.heap.objs.size f cd
 outer:=outer
 stack:=envOfC qual scope s.heap.objs.size f cd::outer
 ex:=[]
 calm:=true
 fn:=fun _=>true
 pn:=[]
 xe:=fun e s'=>wpAny (model P w) (A.deeper (envOfC qual scope s.heap.objs.size f cd)) (leaving (envOfC qual scope s.heap.objs.size f cd) e) (fun _ s''=>CX outer H s E e s'') (fun e' s''=>CX outer H s E e' s'') s'
theorem oM{sc:Scope}{n:Nat}(h:sc.names.lookup x=some .cell):∃c,(cellsFrom n sc.names []).lookup x=some c:=by have q:=PySem.W.cellsFrom_some sc.names n [] (.inl h);exact Option.isSome_iff_exists.mp q
theorem uN{CX:CXT}{P:Program}{w:World}{K:Js}{mg:Str->Option Value}{base:Heap}{N ps:List Str}{qual:Str}{scope:Scope}{f:Addr}{cd:Value}{A:Around}{outer:List Env}{s s1:Shared}{H:Hp}{E:XK}{us:List Value}{vs:List V}
  (S:aF N ps scope) (hd:A.handled=none) (e0:zI P w K mg base A outer s H) (hl:vs.length=ps.length) (r:Vals vs us)
  (x:InCallC s s.heap.objs.size (bindL (envOfC qual scope s.heap.objs.size f cd).kindOf (ps.zip us) fun _=>none) (cellsFrom (s.heap.objs.size+1) scope.names []) (bindC (envOfC qual scope s.heap.objs.size f cd).kindOf (ps.zip us) fun _=>none) s1) :
  Inv (qQ CX P w K mg base N qual scope f cd A outer s H E) [] (start N vs) H s1:=by
 have En:ps.length<=N.length:=by have:=congrArg List.length S.pre;rw[KA]at this;lia
 obtain⟨h1,tk,rfl,hk⟩:=x.done;have noA:∀b:Addr,b∉(qQ CX P w K mg base N qual scope f cd A outer s H E).ex:=fun b z=>absurd (show b∈([]:List Addr) from z) (by simp);refine ⟨⟨e0.mod,S.kind,rfl,rfl,JL _,fun y z c h1 h2=>?_,fun y hy=>?_,fun y c _ h=>?_,fun _=>hd,Around.frames_deeper e0.frames,.inr ⟨rfl,rfl⟩,fun b z=>absurd z (noA b),e0.bs,e0.bsz,fun b _ _=>noA b,fun b z=>absurd z (noA b),e0.jN,e0.frf⟩,
  rfl,e0.bare,Un.kept hk,⟨_,x.toInCall.ns,fun i y v h1 h2 h3=>?_⟩,fun y c h=>⟨_,x.cell y c h⟩,e0.hok.fresh (JL _),fun y c h=>?_,fun p hp=>absurd (show p∈([]:List (Addr×Obj)) from hp) (by simp),e0.hok.kept hk,?_⟩
 ·exact name_of_addr x.apart (PySem.mem_of_lookup h1) (PySem.mem_of_lookup h2)
 ·have hy:scope.names.lookup y=some .cell\/scope.names.lookup y=some .free:=hy;rcases hy with hy | hy
  ·exact oM hy
  ·exact absurd rfl (S.CN _ (PySem.mem_of_lookup hy))
 ·exact LX (x.above y c (PySem.mem_of_lookup h))
 ·have hi:i<vs.length:=by
   unfold start at h2;by_cases hi:i<vs.length
   ·exact hi
   ·rw[J5 (by simpa using hi)]at h2;rw[Km]at h2;split at h2<;>cases h2
  have ha:vs[i]?=some v:=by
   unfold start at h2;rw[JQ (by simpa using hi),JT]at h2;cases e:vs[i]? with
   |none=>rw[e]at h2;cases h2
   |some a=>rw[e]at h2;cases h2;rfl
  obtain⟨u,hu,rv⟩:=r.get ha;have hp:ps[i]?=some y:=by rw[<- S.pre,Lg (by lia)];exact h1
  have ndP:ps.Nodup:=by rw[<- S.pre];exact S.nd.sublist (List.take_sublist _ _)
  refine⟨u,rv,?_⟩;rcases S.par y (KD hp) with k | k
  ·exact .inl ⟨k,mD ndP hp hu k⟩
  ·obtain⟨c,e⟩:=oM (n:=s.heap.objs.size+1) k;refine .inr ⟨.inl k,c,e,?_⟩;have q:=x.cell y c e;rw[mE ndP hp hu (by show scope.names.lookup y≠_;rw[k];decide)]at q;exact q
 ·exact e0.hok.fresh (LX (x.above y c (PySem.mem_of_lookup h)))
 ·unfold start;show _=N.length;rw[JO,JM,K3]
  lia
theorem Fj{CX:CXT}{P:Program}{w:World}{K:Js}{mg:Str->Option Value}{base:Heap}{k:Nat}{f:Addr}{name qual:Str}{params:Arguments}{body:List Stmt}{scope:Scope}{dV kV doc pm cdv ct oc:Value}{an od:Option Addr}
  {osl:Array (Option Value)} {N ps:List Str} {sp:Sp} (lk:K.lookup f=some ⟨oc,od,.func (Kh name qual params body scope dV kV doc pm an cdv ct),osl⟩) (IU:LG K cdv qual=true) (S:aF N ps scope)
  (len:∀vs H Q E,sp vs H Q E->vs.length=ps.length)
  (hbody:∀ (A:Around) (outer:List Env) (s:Shared) (H:Hp) (vs:List V) (Q:VK) (E:XK),cj k (A.deeper (envOfC qual scope s.heap.objs.size f cdv))→sp vs H Q E →
   ∃t,PSs (qQ CX P w K mg base N qual scope f cdv A outer s H E) body t/\t { nx:=fun _ H'=>Q .non H',rt:=Q } (start N vs) H) :
  bK P w K mg base CX (k+1) f (Kh name qual params body scope dV kV doc pm an cdv ct) ps sp:=by
 refine⟨len,fun A outer s H args us vs Q E hr e0 hb r hsp=>?_⟩;have hl:=len _ _ _ _ hsp;have KX:K.In s.heap:=e0.mod.kin.keeps fun b o e=>(e0.bs b o e).1;have lim:s.heap.NoLimit:=e0.mod.nolimit.keeps fun b o e=>(e0.bs b o e).1;have hkind:∀y∈ps.zip us,scope.names.lookup y.1=some .local\/(scope.names.lookup y.1=some .cell/\((cellsFrom (s.heap.objs.size+1) scope.names []).lookup y.1).isSome=true):=fun⟨n,v⟩ hy=>by
  rcases S.par n (Ld hy).1 with q | q
  ·exact .inl q
  ·exact .inr ⟨q,PySem.W.cellsFrom_some _ _ _ (.inl q)⟩
 refine codeAny_call_function hr.depth (KX _ _ lk) rfl S.co S.gen rfl (PySem.W.codeRec_of KX IU) (hb _ _ _ _ ?_);refine wpAny_newFunctionEnv_cells S.kind hkind fun env he s1 x=>?_;subst he;refine⟨lim.keeps x.toInCall.keep,codeAny_func ?_⟩;obtain⟨t,ht,hq⟩:=hbody A outer s H vs Q E (hr.deeper _) hsp;have I:Inv (qQ CX P w K mg base N qual scope f cdv A outer s H E) [] (start N vs) H s1:=uN S hr.hd e0 hl r x;refine wpAny_mono (ht [] s1 (start N vs) H _ I hq) (fun fl s' hs=>?_) fun e s' hs=>hs;have I0:∀{σ':St} {H':Hp} {v:V} {u:Value},Inv (qQ CX P w K mg base N qual scope f cdv A outer s H E) [] σ' H' s'->RelV v u->Q v H'->CE outer P w H s Q u s':=
  fun {σ' H' v u} J rv q=>⟨v,H',J.os,J.bare,J.base,J.hok,rv,q⟩
 cases fl with
 |ret u=>obtain⟨v,σ',H',J,rv,q⟩:=hs;exact I0 J rv q
 |next=>obtain⟨σ',H',J,q⟩:=hs;exact I0 (v:=V.non) (u:=Value.none) J rfl q
 |brk=>obtain⟨_,_,_,q⟩:=hs;exact J7 q
 |cont=>obtain⟨_,_,_,q⟩:=hs;exact J7 q
end
section
variable{X:Cx}{x:Str}{p pos:Pos}{e:Expr}{es:List Expr}{t:TA}{id T:String}{r:List V->Hp->VK->Prop}
def tCB(r:List V->Hp->VK->Prop)(t:TA):TE:=fun σ H Q=>t σ H fun vs H1=>r vs H1 Q
theorem oN(hc:dg X (.builtin id) r)(hg:Gl X x)(hm:X.mg x=none)(hv:bootBuiltins x=some (.builtin id))(ha:PA X (e::es) t)(hn:x ≠ "__name__" := by decide)(NV:(x == ("__debug__" : Str))=false:=by decide)
  (he:starEach (e::es) X.env=(false,eval e X.env)::starEach es X.env:=by rfl) (En:(backTo pos (starEach es X.env)).any (·.1)=false:=by rfl):PE X (.Call (.Name x p) (e::es) [] pos) (tCB r t):=by
 intro cM s σ H Q I h;refine wpAny_Call_Name_kw (cX I hg hm hv ?_ hn NV);exact PyProof.Rows.callWith_builtin1 (thn (ha pos cM s σ H _ I h) fun us s1 ⟨vs,H1,I1,r1,q1⟩=>hc cM s1 σ H1 vs us Q I1 r1 q1) he En
theorem uO(hc:dg X (.type T) r)(hg:Gl X x)(hm:X.mg x=none)(hv:bootBuiltins x=some (.type T))(ha:PA X (e::es) t)(hn:x ≠ "__name__" := by decide)(NV:(x == ("__debug__" : Str))=false:=by decide)
  (he:starEach (e::es) X.env=(false,eval e X.env)::starEach es X.env:=by rfl) (En:(backTo pos (starEach es X.env)).any (·.1)=false:=by rfl):PE X (.Call (.Name x p) (e::es) [] pos) (tCB r t):=by
 intro cM s σ H Q I h;refine wpAny_Call_Name_kw (cX I hg hm hv ?_ hn NV);exact J2 (thn (ha pos cM s σ H _ I h) fun us s1 ⟨vs,H1,I1,r1,q1⟩=>hc cM s1 σ H1 vs us Q I1 r1 q1) he En
end
end L2
namespace HT
open PySem PyProof.Rows
section
variable{prog:Program}{w:World}{A:Around}{E:Value->Shared->Prop}{s:Shared}
noncomputable def sIx(n d:Nat):Option Int->Nat
 |none=>d
 |some v=>if v<0 then (v+(n:Int)).toNat else min v.toNat n
end
end HT
namespace L2
open PySem PySem.Spec PyProof.Rows
noncomputable abbrev TO:=St->Hp->(Option Int->Hp->Prop)->Prop
def PO(X:Cx)(e:Option Expr)(t:TO):Prop:=
 ∀(cM:List (Addr×Obj)) (s:Shared) (σ:St) (H:Hp) (Q:Option Int->Hp->Prop),Inv X cM σ H s->t σ H Q ->
  wpAny (model X.prog X.w) X.A (evalPart e X.env) (fun u s'=>∃o H',Inv X cM σ H' s'/\IsPart u o/\Q o H') X.xe s
def ni:TO:=fun _ H Q=>Q none H
def vY(t:TE):TO:=fun σ H Q=>t σ H fun x H1=>∃i,x=.int i/\Q (some i) H1
section
variable{X:Cx}{e:Expr}{te:TE}{lo hi:Option Expr}{tl th:TO}{pos p2:Pos}
theorem zJ:PO X none ni:=by intro cM s σ H Q I h;rw[evalPart_none];exact wpAny_pure ⟨none,H,I,.none,h⟩
theorem zK(h:PE X e te):PO X (some e) (vY te):=by intro cM s σ H Q I hw;rw[evalPart_some];refine thn (h cM s σ H _ I hw) fun u s1 ⟨x,H1,I1,r1,q1⟩=>?_;obtain⟨i,rfl,q⟩:=q1;obtain⟨t,rfl⟩:=r1;exact⟨some i,H1,I1,.int i t,q⟩
def SlR(X:Cx)(r:V->Option Int->Option Int->Hp->VK->Prop):Prop:=
 ∀(cM:List (Addr×Obj)) (s:Shared) (σ:St) (H:Hp) (x:V) (v vl vu:Value) (lo hi:Option Int) (sl:Addr) (Q:VK),Inv X cM σ H s->RelV x v->s.heap.IsSliceOf sl vl vu .none->IsPart vl lo->IsPart vu hi->r x lo hi H Q ->
  ∃T id,typeLookup (.type T) "__getitem__" = pure (some (.builtin id))/\s.TypeIs v T/\wpAny (model X.prog X.w) X.A (getItem v (.ref sl)) (EP X cM σ Q) X.xe s
def tSl(r:V->Option Int->Option Int->Hp->VK->Prop)(te:TE)(tl th:TO):TE:=fun σ H Q=>te σ H fun x H1=>tl σ H1 fun l H2=>th σ H2 fun u H3=>r x l u H3 Q
theorem vZ{r:V->Option Int->Option Int->Hp->VK->Prop}(hr:SlR X r)(he:PE X e te)(hl:PO X lo tl)(hu:PO X hi th):PE X (.Subscript e (.Slice lo hi none p2) pos) (tSl r te tl th):=by intro cM s σ H Q I h;refine Subscript_ (thn (he cM s σ H _ I h) fun v s1 ⟨x,H1,I1,r1,q1⟩=>?_);refine wpAny_Slice (thn (hl cM s1 σ H1 _ I1 q1) fun vl s2 ⟨l,H2,I2,pl,q2⟩=>thn (hu cM s2 σ H2 _ I2 q2) fun vu s3 ⟨u,H3,I3,pu,q3⟩=>?_);rw[evalPart_none];refine wpAny_pure ?_;have I4:Inv X cM σ H3 { s3 with heap:=s3.heap.push { cls:=.type "slice",data:=.fields #[vl,vu,.none] } }:=I3.kept (t':=s3.toks) fun b ob q=>JN _ q;obtain⟨T,id,hT,ht,hg⟩:=hr cM { s3 with heap:=s3.heap.push { cls:=.type "slice",data:=.fields #[vl,vu,.none] } } σ H3 x v vl vu l u s3.heap.objs.size Q I4 r1 (Heap.IsSliceOf.new ..) pl pu q3;show wpAny (model X.prog X.w) X.A (subscriptTail e (.Slice lo hi none p2) v (.ref s3.heap.objs.size)) (EP X cM σ Q) X.xe { s3 with heap:=s3.heap.push { cls:=.type "slice",data:=.fields #[vl,vu,.none] } };exact tail_any (ops:=[.ref s3.heap.objs.size,v]) ht hT hg (by with_unfolding_all rfl)
noncomputable def qS(xs:List V)(lo hi:Option Int):List V:=(xs.drop (HT.sIx xs.length 0 lo)).take (HT.sIx xs.length xs.length hi-HT.sIx xs.length 0 lo)
theorem oO(xs:List V)(lo hi:Option Int):(qS xs lo hi).length<=xs.length:=by
 unfold qS;rw[KA,KC]
 lia
end
noncomputable def ixN(n:Nat)(i:Int):Option Nat:=if 0<=i then (if i<n then some i.toNat else none) else if -(n:Int)<=i then some (i+n).toNat else none
noncomputable def atI{α:Type}(xs:List α)(i:Int):Option α:=(ixN xs.length i).bind fun j=>xs[j]?
theorem sO{n:Nat}{i:Int}{j:Nat}(h:ixN n i=some j):seqIndex? i n=some j/\j<n/\-(n:Int)<=i/\i<n:=by
 unfold ixN at h;by_cases h0:0<=i
 ·rw[if_pos h0]at h;by_cases h1:i<n
  ·rw[if_pos h1]at h;have e:i.toNat=j:=Option.some.inj h;exact⟨by rw[seqIndex_of h0 h1,e],by lia,by lia,h1⟩
  ·rw[if_neg h1]at h;cases h
 ·rw[if_neg h0]at h;by_cases h1:-(n:Int)<=i
  ·rw[if_pos h1]at h;have e:(i+n).toNat=j:=Option.some.inj h;exact⟨by rw[seqIndex_neg (by lia) h1,e],by lia,h1,by lia⟩
  ·rw[if_neg h1]at h;cases h
theorem nj{α:Type}{xs:List α}{i:Int}{v:α}(h:atI xs i=some v):∃j,seqIndex? i xs.length=some j/\xs[j]?=some v/\j<xs.length/\-(xs.length:Int)<=i/\i<xs.length:=by
 unfold atI at h;cases e:ixN xs.length i with
 |none=>rw[e]at h;cases h
 |some j=>rw[e]at h;obtain⟨h1,h2,h3,h4⟩:=sO e;exact⟨j,h1,h,h2,h3,h4⟩
def jH(b:Expr):Prop:=∀o i,subscripted b false o i=operate [o,i] (getItem o i)
def IxR(X:Cx)(r:R2):Prop:=
 ∀(value slice:Expr) (cM:List (Addr×Obj)) (s:Shared) (σ:St) (H:Hp) (x y:V) (v u:Value) (Q:VK),Inv X cM σ H s->RelV x v->RelV y u->r x y H Q ->
  subscripted slice false v u=operate [v,u] (getItem v u)->wpAny (model X.prog X.w) X.A (subscriptTail value slice v u) (EP X cM σ Q) X.xe s
def MtR(X:Cx)(id:String)(r:V->List V->Hp->VK->Prop):Prop:=
 ∀(cM:List (Addr×Obj)) (s:Shared) (σ:St) (H:Hp) (x:V) (xs:List V) (v:Value) (us:List Value) (Q:VK),Inv X cM σ H s->RelV x v->Vals xs us->r x xs H Q ->
  wpAny (model X.prog X.w) X.A (call (.builtin id) (v::us)) (EP X cM σ Q) X.xe s
section
variable{X:Cx}{a b:Expr}{ta tb:TE}{pos:Pos}
section
variable{cM:List (Addr×Obj)}{s:Shared}{H:Hp}{σ:St}
theorem IxR.or{r r':R2}(h:IxR X r)(h':IxR X r'):IxR X (fun x y H Q=>r x y H Q\/r' x y H Q):=by
 intro value slice cM s σ H x y v u Q I rx ry q hs;rcases q with q | q
 ·exact h value slice cM s σ H x y v u Q I rx ry q hs
 ·exact h' value slice cM s σ H x y v u Q I rx ry q hs
theorem v5{r:R2}(hr:IxR X r)(ha:PE X a ta)(hb:PE X b tb)(hs:jH b):PE X (.Subscript a b pos) (tOp r ta tb):=by intro cM s σ H Q I h;exact Subscript_ (Cz ha hb I h fun v u s2 x y H2 I2 rx ry q=>hr a b cM s2 σ H2 x y v u Q I2 rx ry q (hs _ _))
def Fl(K:Js):R2:=fun x y H Q=>∃p xs i v,x=.ref p/\y=.int i/\SqL K H p xs/\atI xs i=some v/\Q v H
def CO(K:Js):R2:=fun x y H Q=>∃p xs i v,x=.ref p/\y=.int i/\SqT K H p xs/\atI xs i=some v/\Q v H
def Fo:R2:=fun x y H Q=>∃z i c,x=.str z/\y=.int i/\z.length<=sizeLine/\atI z.cps.toList i=some c/\Q (.str ⟨#[c]⟩) H
theorem zL:IxR X (Fl X.K):=by
 intro value slice cM s σ H x y v u Q I rx ry h hs;obtain⟨p,xs,i,z,rfl,rfl,hq,he,q⟩:=h;cases rx;obtain⟨t,rfl⟩:=ry;obtain⟨its,r,pl,hz⟩:=I.list hq;obtain⟨j,h1,h2,h3,h4,h5⟩:=nj he;obtain⟨w,ew,rw'⟩:=r.get h2;have hl:=r.length;have hn:=iJ;have I0:EP X cM σ Q w s:=⟨z,H,I,rw',q⟩
 by_cases h0:0<=i
 ·have hj:i.toNat=j:=by
   rw[seqIndex_of h0 h5]at h1;exact Option.some.inj h1
  exact item_listR pl.isList h0 (by lia) (by rw[hj];simpa using ew) I0 hs
 ·have hj:(i+(its.toArray.size:Int)).toNat=j:=by
   rw[seqIndex_neg (by lia) h4]at h1;rw[JR,<- hl];exact Option.some.inj h1
  exact subscriptTail_builtinR (x:=w) pl.isList.typeIs slot_list_getitem.lookup
   (wpAny_getItem_list_neg (Q:=fun r s'=>r=w/\EP X cM σ Q r s') pl.isList (by lia) (by rw[JR]<;>lia) (by lia) (by rw[hj];simpa using ew) ⟨rfl,I0⟩) hs
theorem v7:IxR X (CO X.K):=by
 intro value slice cM s σ H x y v u Q I rx ry h hs;obtain⟨p,xs,i,z,rfl,rfl,hq,he,q⟩:=h;cases rx;obtain⟨t,rfl⟩:=ry;obtain⟨its,r,pl,hz⟩:=I.tuple hq;obtain⟨j,h1,h2,h3,h4,h5⟩:=nj he;obtain⟨w,ew,rw'⟩:=r.get h2;have hl:=r.length;have hn:=iJ;have I0:EP X cM σ Q w s:=⟨z,H,I,rw',q⟩
 exact subscriptTail_builtinR (x:=w) pl.typeIs slot_tuple_getitem.lookup
  (getItem_tuple (j:=j) (Q:=fun r s'=>r=w/\EP X cM σ Q r s') pl (by lia) (by lia) (by rw[JR,<- hl];exact h1) (by simpa using ew) ⟨rfl,I0⟩) hs
theorem CP:IxR X Fo:=by
 intro value slice cM s σ H x y v u Q I rx ry h hs;obtain⟨z,i,c,rfl,rfl,hz,he,q⟩:=h;obtain⟨t,rfl⟩:=rx;obtain⟨t',rfl⟩:=ry;obtain⟨j,h1,h2,h3,h4,h5⟩:=nj he;have hl:z.cps.toList.length=z.length:=by simp[Str.length]
 rw[hl]at h1 h4 h5;have hn:=iJ;exact tail_any (typeIs_str s z t) slot_str_getitem.lookup (getItem_str (c:=c) (by have e1:decide (i < -(2 ^ 63:Int))=false:=decide_eq_false (by lia);have e2:decide (i≥2 ^ 63)=false:=decide_eq_false (by lia);rw[e1,e2,Bool.or_false]) (by rw[h1];simpa using h2) ⟨.str ⟨#[c]⟩,H,I.tok _,⟨_,rfl⟩,q⟩) hs
theorem qT(its:List Value)(n j:Nat)(u:Value):Lk (·.setIfInBounds j u) { cls:=.type "list",data:=.seq its.toArray n }={ cls:=.type "list",data:=.seq (its.set j u).toArray n }:=by simp[Lk]
theorem Inv.lst{cM:List (Addr×Obj)}{σ:St}{H:Hp}{s:Shared}{p:Addr}{xs:List V}(I:Inv X cM σ H s)(h:H p=some (.lst xs)) :
  ∃(its:List Value) (n:Nat),Vals xs its/\s.heap.get? p=some { cls:=.type "list",data:=.seq its.toArray n }/\xs.length<=sizeLine:=by
 obtain⟨z,its,n,r,e⟩:=I.hok p _ h;exact⟨its,n,r,e,z⟩
theorem Inv.CQ{p:Addr}{xs ys:List V}{its its':List Value}{n n':Nat}{f:Obj->Obj}(I:Inv X cM σ H s)(h:H p=some (.lst xs))
  (ho:s.heap.get? p=some { cls:=.type "list",data:=.seq its.toArray n }) (hf:f { cls:=.type "list",data:=.seq its.toArray n }={ cls:=.type "list",data:=.seq its'.toArray n' }) (r:Vals ys its') (hz:ys.length<=sizeLine) (t:Nat) :
  Inv X cM σ (upd H p (.lst ys)) { s with heap:=s.heap.update p f,toks:=t }:=by
 have e:(s.heap.update p f).get? p=some { cls:=.type "list",data:=.seq its'.toArray n' }:=by rw[Heap.get?_update_self f ho (by rw[hf]<;>rfl),hf]
 refine I.write (x:=p) (e:=p) (by rw[h];trivial) (.inl rfl) (fun b u hb q=>(Ln _ _ (Kl hb)).trans q) ⟨_,e⟩ ?_;exact⟨hz,its',n',r,e⟩
def BB:V->V->V->Hp->(Hp->Prop)->Prop:=fun o i v H Q=>∃p xs k j,o=.ref p/\i=.int k/\H p=some (.lst xs)/\ixN xs.length k=some j/\Q (upd H p (.lst (xs.set j v)))
theorem set_list:E9 X BB:=by
 intro cM s σ H o i v ov iv u Q I ro ri rv h;obtain⟨p,xs,k,j,rfl,rfl,hp,hj,q⟩:=h;cases ro;obtain⟨t,rfl⟩:=ri;obtain⟨its,n,r,ho,hz⟩:=I.lst hp;obtain⟨h1,h2,h3,h4⟩:=sO hj;have hl:=r.length;have hn:=iJ;have I':Inv X cM σ (upd H p (.lst (xs.set j v))) { s with heap:=s.heap.update p (Lk (·.setIfInBounds j u)) }:=
  I.CQ hp ho (qT its n j u) (r.set rv j) (by rw[Kc];exact hz) s.toks
 by_cases h0:0<=k
 ·have hk:k.toNat=j:=by
   rw[seqIndex_of h0 h4]at h1;exact Option.some.inj h1
  exact PySem.W.ki_setAt ho h0 (by lia) (by rw[JR,<- hl];exact h4) (by rw[hk];exact⟨_,I',q⟩)
 ·have hk:(k+(its.toArray.size:Int)).toNat=j:=by
   rw[seqIndex_neg (by lia) h3]at h1;rw[JR,<- hl];exact Option.some.inj h1
  exact PySem.W.ki_setBack ho (by lia) (by rw[JR,<- hl];exact h3) (by lia) (by rw[hk];exact⟨_,I',q⟩)
theorem nk(lo hi:Option Int)(n:Nat):(sliceBounds lo hi none n).1=((HT.sIx n 0 lo:Nat):Int)/\(sliceBounds lo hi none n).2.1=((HT.sIx n n hi:Nat):Int)/\(sliceBounds lo hi none n).2.2=1:=by
 refine⟨?_,?_,rfl⟩
 ·cases lo with
  |none=>simp[sliceBounds,HT.sIx]
  |some i=>
   simp only[sliceBounds,HT.sIx,Option.getD_none,show (1:Int)>0 by decide,if_true];by_cases h:i<0
   ·simp only[h,if_true]<;>lia
   ·simp only[h,if_false]<;>lia
 ·cases hi with
  |none=>simp[sliceBounds,HT.sIx]
  |some i=>
   simp only[sliceBounds,HT.sIx,Option.getD_none,show (1:Int)>0 by decide,if_true];by_cases h:i<0
   ·simp only[h,if_true]<;>lia
   ·simp only[h,if_false]<;>lia
theorem l0(its:List Value)(lo hi:Option Int):slicePick its.toArray lo hi none=((its.drop (HT.sIx its.length 0 lo)).take (HT.sIx its.length its.length hi-HT.sIx its.length 0 lo)).toArray:=by obtain⟨h1,h2,h3⟩:=nk lo hi its.toArray.size;unfold slicePick;rw[h1,h2,h3];simp only[sliceRange_one,pick_run,JR]<;>rfl
def Fp(K:Js):V->Option Int->Option Int->Hp->VK->Prop:=fun x lo hi H Q=>∃a xs,x=.ref a/\SqL K H a xs/\∀p,H p=none->Q (.ref p) (upd H p (.lst (qS xs lo hi)))
theorem zM:SlR X (Fp X.K):=by intro cM s σ H x v vl vu lo hi sl Q I rx hs pl pu h;obtain⟨a,xs,rfl,hx,q⟩:=h;cases rx;obtain⟨its,r,ht,hz⟩:=I.list hx;have AY:=r.length;refine⟨"list",_,slot_list_getitem.lookup,ht.isList.typeIs,?_⟩;refine wpAny_getItem_list_slice ht.isList hs pl pu .none (by simp) ?_ (by rw[JR]<;>lia);rw[l0,<- AY];refine⟨.ref s.heap.objs.size,_,I.laid (t':=s.toks) (o:=.lst (qS xs lo hi)) (fun b ob q=>JN _ q) (JL _) ?_,rfl,q _ (I.hok.fresh (JL _))⟩;exact⟨JU (oO xs lo hi) hz,_,0,(r.drop (HT.sIx xs.length 0 lo)).take (HT.sIx xs.length xs.length hi-HT.sIx xs.length 0 lo),J0 _ rfl⟩
theorem nq:dg X (.builtin "len") (fun xs H Q=>∃p ys,xs=[.ref p]/\(SqL X.K H p ys\/SqT X.K H p ys)/\Q (.int ys.length) H):=by
 intro cM s σ H xs us Q I r h;obtain⟨p,ys,rfl,hq,q⟩:=h;obtain⟨u,rfl,rx⟩:=vals1 r;cases rx;have hn:=iJ;rcases hq with hq | hq
 ·obtain⟨its,r',pl,hz⟩:=I.list hq;have AY:=r'.length;exact Calls.call_len_list pl.isList (by simp only[JR]<;>lia) ⟨.int ys.length,H,I.tok _,⟨s.toks+1,by rw[JR,AY]⟩,q⟩
 ·obtain⟨its,r',pl,hz⟩:=I.tuple hq;have AY:=r'.length;exact len_tuple pl (by simp only[JR]<;>lia) ⟨.int ys.length,H,I.tok _,⟨s.toks+1,by rw[JR,AY]⟩,q⟩
theorem nu:dg X (.builtin "len") (fun xs H Q=>∃z,xs=[.str z]/\z.length<=sizeLine/\Q (.int z.length) H):=by intro cM s σ H xs us Q I r h;obtain⟨z,rfl,hz,q⟩:=h;obtain⟨u,rfl,t,rfl⟩:=vals1 r;have hn:=iJ;exact len_str (by lia) ⟨.int z.length,H,I.tok _,⟨_,rfl⟩,q⟩
theorem nv:dg X (.type "list") (fun xs H Q=>∃p ys,xs=[.ref p]/\(SqL X.K H p ys\/SqT X.K H p ys)/\∀l,H l=none->Q (.ref l) (upd H l (.lst ys))):=by
 intro cM s σ H xs us Q I r h;obtain⟨p,ys,rfl,hq,q⟩:=h;obtain⟨u,rfl,rx⟩:=vals1 r;cases rx;have I0:∀(its:List Value),Vals ys its->ys.length<=sizeLine->∀(h':Heap) (c':Nat),(∀b o',s.heap.get? b=some o'->h'.get? b=some o') ->
   h'.get? s.heap.objs.size=some { cls:=.type "list",dict:=none,data:=.seq its.toArray c',slots:=#[] }->EP X cM σ Q (.ref s.heap.objs.size) { s with heap:=h' }:=fun its r' hz h' c' kp e=>
  ⟨.ref s.heap.objs.size,_,I.laid (t':=s.toks) kp (JL _) (show bX X.prog X.w _ h' _ (.lst ys) from ⟨hz,its,c',r',e⟩),rfl,q _ (I.hok.fresh (JL _))⟩
 rcases hq with hq | hq
 ·obtain⟨its,r',pl,hz⟩:=I.list hq;have AY:=r'.length;obtain⟨o,ho,hc,n,hd⟩:=pl.isList;exact call_list_seq p (.inl rfl) ho hc hd (fun h' c' kp e=>I0 its r' hz h' c' kp e) (by simp only[JR]<;>lia)
 ·obtain⟨its,r',pl,hz⟩:=I.tuple hq;have AY:=r'.length;obtain⟨o,ho,hc,n,hd⟩:=pl;exact call_list_seq p (.inr rfl) ho hc hd (fun h' c' kp e=>I0 its r' hz h' c' kp e) (by simp only[JR]<;>lia)
def tyV(K:Js)(T:String)(x:V)(H:Hp):Prop:=match x with
 |.str _=>T = "str"
 |.int _=>T = "int"
 |.ref p=>(T = "list" /\ ∃xs,SqL K H p xs)\/(T = "tuple" /\ ∃o,K.lookup p=some o/\o.cls=.type "tuple" /\ o.dict=none) \/
   (T = "dict" /\ ((∃kvs,H p=some (.dK kvs))\/∃kvs ts,H p=some (.dT kvs ts)))\/(T = "set" /\ ∃S n,H p=some (.set S n))
 |_=>False
theorem v8{T:String}{x:V}{v:Value}(I:Inv X cM σ H s)(r:RelV x v)(ty:tyV X.K T x H) :
  s.TypeIs v T/\∀a,v=.ref a->∃ob,s.heap.get? a=some ob/\ob.dict=none:=by
 cases x with
 |str z=>obtain⟨t,rfl⟩:=r;cases (show T = "str" from ty);exact⟨typeIs_str s z t,fun _ e=>nomatch e⟩
 |int i=>obtain⟨t,rfl⟩:=r;cases (show T = "int" from ty);exact⟨typeIs_int s i t,fun _ e=>nomatch e⟩
 |ref p=>
  cases r;rcases ty with⟨rfl,xs,hq⟩ | ⟨rfl,o,hk,hc,hd⟩ | ⟨rfl,hk⟩ | ⟨rfl,S,n,hk⟩
  ·obtain⟨its,_,pl,_⟩:=I.list hq;refine⟨pl.isList.typeIs,fun a e=>?_⟩;cases e;obtain⟨o,n,e,c,hd,_⟩:=pl;exact⟨o,e,hd⟩
  ·refine⟨⟨o,I.kIn p o hk,hc⟩,fun a e=>?_⟩;cases e;exact⟨o,I.kIn _ o hk,hd⟩
  ·have z:∃o,s.heap.get? p=some o/\o.ExactDict:=by
    rcases hk with⟨kvs,hk⟩ | ⟨kvs,ts,hk⟩
    ·obtain⟨_,_,_,_,o,_,_,e,ex,_⟩:=I.hok p _ hk;exact⟨o,e,ex⟩
    ·obtain⟨_,_,_,_,o,_,_,e,ex,_⟩:=I.hok p _ hk;exact⟨o,e,ex⟩
   obtain⟨o,e,ex⟩:=z;refine⟨⟨o,e,ex.1⟩,fun a e2=>?_⟩;cases e2;exact⟨o,e,ex.2.1⟩
  ·obtain⟨o,_,_,_,e,ex,_⟩:=I.hok p _ hk;refine⟨⟨o,e,ex.1⟩,fun a e2=>?_⟩;cases e2;exact⟨o,e,ex.2.1⟩
 |_=>exact J7 ty
def Fq(K:Js)(T:String)(r:V->List V->Hp->VK->Prop)(to:TE):TE:=fun σ H Q=>to σ H fun x H1=>tyV K T x H1/\r x [] H1 Q
def tBM(K:Js)(T:String)(r:V->List V->Hp->VK->Prop)(to:TE)(t:TA):TE:=fun σ H Q=>to σ H fun x H1=>tyV K T x H1/\t σ H1 fun xs H2=>r x xs H2 Q
variable{o e:Expr}{es:List Expr}{to:TE}{t:TA}{name:Str}{NW cpos:Pos}{T id:String}{r:V->List V->Hp->VK->Prop}
theorem CS(pa:PlainAttrs T)(slot:Slot T name id)(hty:typeOf (.builtin id)=pure (.type "method_descriptor"))(hm:MtR X id r)(ho:PE X o to)
  (Ef:attributeBase o name X.env (eval o X.env)=eval o X.env:=by rfl) (BU:(NW.endLine == cpos.line)=true:=by rfl):PE X (.Call (.Attribute o name NW) [] [] cpos) (Fq X.K T r to):=by
 intro cM s σ H Q I h;refine wpAny_Call_method0_late Ef BU (thn (ho cM s σ H _ I h) fun v s1 ⟨x,H1,I1,r1,ty,q1⟩=>?_);obtain⟨h1,h2⟩:=v8 I1 r1 ty;exact⟨T,id,pa,slot,hty,h1,h2,Calls.callWith_builtin rfl (PySem.evalArgs_none (hm cM s1 σ H1 x [] v [] Q I1 r1 .nil q1))⟩
theorem v9(pa:PlainAttrs T)(slot:Slot T name id)(hty:typeOf (.builtin id)=pure (.type "method_descriptor"))(hm:MtR X id r)(ho:PE X o to)(ha:PA X (e::es) t)
  (Ef:attributeBase o name X.env (eval o X.env)=eval o X.env:=by rfl)
  (hfew:((backTo cpos (starEach (e::es) X.env)).all (fun x=>!x.1)&&(backToKw cpos (keywordEach [] X.env)).all (fun x=>x.1.isSome)
   && decide ((e::es).length+([]:List Keyword).length+(if ([]:List Keyword).isEmpty then 0 else 1)<30))=true:=by rfl)
  (BU:(NW.endLine == cpos.line)=true:=by rfl) (hs:starEach (e::es) X.env=(false,eval e X.env)::starEach es X.env:=by rfl) (BS:(backTo cpos (starEach es X.env)).any (·.1)=false:=by rfl) :
  PE X (.Call (.Attribute o name NW) (e::es) [] cpos) (tBM X.K T r to t):=by
 intro cM s σ H Q I h;refine wpAny_Call_method_late Ef hfew BU rfl (thn (ho cM s σ H _ I h) fun v s1 ⟨x,H1,I1,r1,ty,q1⟩=>?_);obtain⟨h1,h2⟩:=v8 I1 r1 ty;refine⟨T,id,pa,slot,hty,h1,h2,?_⟩;have hA:=ha cpos cM s1 σ H1 _ I1 q1;rw[hs]at hA ⊢;refine Calls.callWith_builtin (by show (false||(backTo cpos (starEach es X.env)).any (·.1))=false;rw[BS]<;>rfl) (Calls.evalArgs_plain ?_);exact thn hA fun us s2 ⟨vs,H2,I2,r2,q2⟩=>hm cM s2 σ H2 x vs v us Q I2 r1 r2 q2
end
end
def MtM(X:Cx)(id:String)(r:V->List V->Hp->VK->Prop):Prop:=
 ∀(cM:List (Addr×Obj)) (s:Shared) (σ:St) (H:Hp) (x:V) (xs:List V) (v:Value) (us:List Value) (Q:VK),Inv X cM σ H s->RelV x v->Vals xs us->r x xs H Q ->
  wpAny (model X.prog X.w) X.A (call (.builtin id) (v::us)) (EP X cM σ Q) X.xe s
theorem Vals.one:∀{x:V} {us:List Value},Vals [x] us->∃u,us=[u]/\RelV x u
 |_,_,.cons r .nil=>⟨_,rfl,r⟩
theorem Vals.rep{xs:List V}{us:List Value}(h:Vals xs us):∀k:Nat,Vals (gc k xs).flatten (gc k us).flatten
 |0=>.nil
 |k+1=>by rw[Kn,Kn,KH,KH];exact Vals.append h (Vals.rep h k)
theorem foldl_rep(its:List Value):∀(k:Nat) (kM:List Value),
  Mk (fun x1 x2=>x1++x2) kM.toArray (gc k its.toArray)=(kM++(gc k its).flatten).toArray
 |0,kM=>by simp
 |k+1,kM=>by
  have e:kM.toArray++its.toArray=(kM++its).toArray:=by simp
  have e2:(kM++its)++(gc k its).flatten=kM++(gc (k+1) its).flatten:=by rw[Kn,KH,KI]
  rw[<- e2,<- foldl_rep its k (kM++its),<- e,Kn,L0]
section
variable{X:Cx}{cM:List (Addr×Obj)}{σ:St}{H:Hp}{s:Shared}{l b:Addr}{xs ys zs:List V}
theorem Inv.Ie{its its':List Value}{n:Nat}{f:Array Value->Array Value}{t':Nat}(I:Inv X cM σ H s)(hH:H l=some (.lst xs))
  (e:s.heap.get? l=some { cls:=.type "list",data:=.seq its.toArray n }) (hf:f its.toArray=its'.toArray) (hv:Vals ys its') (hz:ys.length<=sizeLine) :
  Inv X cM σ (upd H l (.lst ys)) { s with heap:=s.heap.update l (Lk f),toks:=t' }:=by
 have q:=PySem.IsL.update e f;rw[hf]at q;refine I.write (x:=l) (e:=l) (by rw[hH];exact trivial) (.inl rfl) (fun b' u hb hu=>(Ln s.heap (Lk f) (Kl hb)).trans hu) ⟨_,q⟩ ?_;exact⟨hz,its',_,hv,q⟩
theorem Inv.CT{its:List Value}{t':Nat}(I:Inv X cM σ H s)(hv:Vals ys its)(hz:ys.length<=sizeLine) :
  Inv X cM σ (upd H s.heap.objs.size (.lst ys)) { s with heap:=s.heap.push { cls:=.type "list",data:=.seq its.toArray },toks:=t' }:=
 I.laid (fun _ _ q=>JN _ q) (JL _) ⟨hz,its,0,hv,J0 _ rfl⟩
theorem Inv.fresh(I:Inv X cM σ H s):H s.heap.objs.size=none:=I.hok.fresh (JL _)
theorem Inv.Ig(I:Inv X cM σ H s)(hH:H l=some (.lst xs)):xs.length<=sizeLine/\∃(its:List Value) (n:Nat),Vals xs its/\xs.length=its.length/\s.heap.get? l=some { cls:=.type "list",data:=.seq its.toArray n }:=by obtain⟨z,its,n,r,e⟩:=I.hok l _ hH;exact⟨z,its,n,r,r.length,e⟩
theorem v_{n:Nat}(h:n<=sizeLine):Lh n=false:=by unfold Lh;exact decide_eq_false (by lia)
end
section
variable{X:Cx}
def ny:V->List V->Hp->VK->Prop:=fun x vs H Q=>∃l xs y,x=.ref l/\vs=[y]/\H l=some (.lst xs)/\xs.length<sizeLine/\Q .non (upd H l (.lst (xs++[y])))
theorem iK:MtM X "list.append" ny:=by
 intro cM s σ H x vs v us Q I rx rv h;obtain⟨l,xs,y,rfl,rfl,hH,hz,q⟩:=h;cases rx;obtain⟨u,rfl,ru⟩:=rv.one;obtain⟨z,its,n,r,hl,e⟩:=I.Ig hH;refine call_meets F.slot_list_append ⟨_,e,rfl⟩ F.entry_list_append (F.args_list_append_2 _ _) (PySem.list_append l its.toArray n u (by rw[JR];lia)) ⟨e,?_⟩;refine⟨.non,_,I.Ie (its':=its++[u]) hH e (by simp) (r.append (.cons ru .nil)) ?_,rfl,q⟩;rw[JO,Lr]
 lia
theorem len_rep{α:Type}(xs:List α)(k:Nat):(gc k xs).flatten.length=k*xs.length:=by
 induction k with
 |zero=>simp
 |succ k ih=>rw[Kn,KH,JO,ih,Nat.succ_mul,Mg]
end
end L2
namespace Att
open PySem PySem.W PySem.Calls PyProof.Rows
theorem jA{P:Params}{h:Heap}:∀(ns:List Int) (vs:List Value),WellAll P h vs (ns.map WData.int)->IntsAre vs ns:=by
 intro ns
 induction ns with
 |nil=>intro vs w;rw[JG]at w;cases w;exact .nil
 |cons n ns ih=>
  intro vs w;rw[Ds]at w;cases w with
  |cons a b=>cases a;exact .cons _ _ (ih _ b)
theorem uP{l:OpenLaw}{n:Nat}(hn:l.most=some n){P:Params}{h:Heap}{args:List WData}{vals:List Value}
  (hpre:l.row.toRowW.claim.pre args=true) (hwl:WellAll P h vals args) :
  ∃a vs ns,vals=[K6 a]/\args=[WData.list (ns.map WData.int)]/\h.get? a=some { cls:=.type "list",data:=.seq vs.toArray }/\IntsAre vs ns/\ns.length<=n:=by
 have hsh:WShape.hasAll [] args [.list .int]=true:=(pre_splitW hpre).1;have hc:l.pre.holds [] { args:=args }=true:=(pre_splitW hpre).2;obtain⟨d,r,rfl,h1,h2⟩:=hasAllW_cons hsh;obtain rfl:=hasAllW_nil h2;obtain⟨xs,rfl,h3⟩:=hasW_list h1;obtain⟨ns,rfl⟩:=items_int h3;have AY:ns.length<=n:=by
  unfold OpenLaw.pre at hc;have h4:(WTm.not (.lt (.lit (.int (n:Int))) (.len (.arg 0)))).holds [] { args:=[.list (ns.map .int)] }=true:=by have h4:=(holds_andW hc).1;rw[hn]at h4;exact h4
  have h5:=condW_of h4 (w_not (w_lt w_lit (w_len_list (w_arg rfl))));rw[JM]at h5;refine Nat.le_of_not_lt fun q=>?_;have q':(n:Int)<((ns.length:Nat):Int):=by omega
  first
   |(rw[decide_eq_true q']at h5;exact absurd h5 (by decide))
   |(simp at h5;omega)
 cases hwl with
 |cons w1 w2=>
  cases w2;cases w1 with
  |list ho hall=>exact⟨_,_,ns,rfl,rfl,ho,jA ns _ hall,AY⟩
theorem uQ(l:OpenLaw)(args:List WData):l.row.toRowW.claim.post args (.bool true) args=true:=
 postW_of (r:=l.row.toRowW) (X:=(true == true))
  (show WShape.has [] (.bool true) .bool=true by first | rfl | decide | simp[WShape.has,WShape.arms,WShape.armsAll])
  (show (WTm.eq .res (.lit (.bool true))).value [] { args:=args,res:=some (.bool true),after:=args }=some (.bool (true == true)) from w_eq_bool (w_res rfl) w_lit) rfl
theorem oQ{l:OpenLaw}{n:Nat}{q:Program}{loose:List Str}{XP:(Str->Option Value)->Heap->Prop}{YP:World->Heap->Prop}{d:DefRec}
  (hn:l.most=some n) (hdf:d.params.defaults=[])
  (call:∀ (w:World) (s₀ s₁:Shared) (mg mb:Str→Option Value) (fa:Addr) (o:Obj) (pm cd doc:Value) (a:Addr) (vs:List Value) (ns:List Int),
   Ground q loose [] XP w s₀ mg mb s₁.heap->YP w s₁.heap ->
   s₁.heap.get? fa=some o->o.data=.func (docDef d.name d.params d.body d.scope pm cd doc)->s₁.heap.CodeRec cd d.name->mg d.name=some (.ref fa) ->
   s₁.heap.get? a=some { cls:=.type "list",data:=.seq vs.toArray }->IntsAre vs ns->ns.length<=n->s₁.gens=#[] ->
   codeAny (model l.prog w) callerA (.call (.ref fa) ⟨[.ref a],[]⟩) (fun r s'=>r=.ok (.ret (.bool true))/\OldK s₁.heap s'.heap/\s'.os=s₁.os/\AllBare s'.gens) s₁) :
  WalkO q loose XP YP l.row.toRowW d [] (fun f vs=>PySem.call f vs):=by
 intro w s₀ s₁ mg mb G Y fa o pm cd doc dV kV ho hd IU hD hmg hg args vals as hpre hlay hrd hwl hlo;obtain rfl:dV=.none:=Dflts.none hD hdf;obtain rfl:kV=.none:=Dflts.noKw hD;obtain⟨a,vs,ns,rfl,rfl,hobj,hints,AY⟩:=uP hn hpre hwl;refine enter_call (codeAny_mono (call w s₀ s₁ mg mb fa o pm cd doc a vs ns G Y ho (fd_plain hd) IU hmg hobj hints AY hg) fun r s' hq=>?_);obtain⟨rfl,h2,h3,h4⟩:=hq;exact⟨.inl ⟨.bool true,.bool true,[],rfl,fun _=>rfl,.bool true,uQ l _,fun _=>⟨List.Pairwise.nil,fun _ hm=>(nomatch hm)⟩⟩,h2,h3,h4⟩
end Att
namespace L2
open PySem PySem.Spec PyProof.Rows
theorem mF:∀{vs:List Value} {ns:List Int},IntsAre vs ns->Vals (ns.map V.int) vs
 |_,_,.nil=>.nil
 |_,_,.cons n t h=>.cons ⟨t,rfl⟩ (mF h)
def CU(H:Hp):Prop:=∀b,H b=none\/∃o xs,H b=some (.frz o (.lst xs))
theorem wc{P:Program}{w:World}{K:Js}{mg mb:Str->Option Value}{CX:CXT}{k:Nat}{fa a:Addr}{fd:FuncData}{x:Str}{sp:Sp}{s₁:Shared}{vs:List Value}{ns:List Int}
  (KX:K.In s₁.heap) (hns:s₁.heap.Ns mainGlobals mg) (hb:s₁.heap.Ns builtinsNs mb) (hbb:∀x:Str,x ≠ "__name__" -> mb x=bootBuiltins x) (hlim:s₁.heap.NoLimit) (hg:s₁.gens=#[])
  (ha:s₁.heap.get? a=some { cls:=.type "list",data:=.seq vs.toArray }) (hi:IntsAre vs ns) (hl:ns.length<=sizeLine) (hr:cj k callerA)
  (F:∀base:Heap,K.In base->base.Ns mainGlobals mg->bK P w K mg base CX k fa fd [x] sp) (hbind:∀(s:Shared) (u:Value),BindsTo s fd ⟨[u],[]⟩ [(x,u)])
  (hsp:∀H:Hp,CU H->SqL K H a (ns.map V.int)->sp [.ref a] H (fun v _=>v=.bl true) fun _ _ _=>False)
  (hCX:∀H e s',CX [] H s₁ (fun _ _ _=>False) e s'->False) :
  codeAny (model P w) callerA (.call (.ref fa) ⟨[.ref a],[]⟩) (fun r s'=>r=.ok (.ret (.bool true))/\OldK s₁.heap s'.heap/\s'.os=s₁.os/\AllBare s'.gens) s₁:=by
 have rv:=mF hi;have Ih:=hi.length;have core:∀H:Hp,CU H->SqL K H a (ns.map V.int)->HOk P w H s₁.heap->(∀b,H b≠none->b=a)->(H a≠none->K.lookup a=none) ->
   codeAny (model P w) callerA (.call (.ref fa) ⟨[.ref a],[]⟩) (fun r s'=>r=.ok (.ret (.bool true))/\OldK s₁.heap s'.heap/\s'.os=s₁.os/\AllBare s'.gens) s₁:=by
  intro H hO hS hok hA hK;have sP:∀{b:Addr} {o:Obj},s₁.heap.get? b=some o->H b=none->(m5 s₁.heap H).get? b=some o:=fun e n=>vH e n;have noA:∀{b:Addr} {o:Obj} {es:Array DictEntry} {ep:Nat},s₁.heap.get? b=some o->o.data=.dict es ep->H b=none:=fun {b o es ep} e d=>by
   cases q:H b with
   |none=>rfl
   |some u=>have e':b=a:=hA b (by rw[q];simp);subst e';rw[ha]at e;cases e;have d':Data.seq vs.toArray _=Data.dict es ep:=d;cases d'
  have nsK:∀{b:Addr} {m:Str->Option Value},s₁.heap.Ns b m->(m5 s₁.heap H).Ns b m:=fun {b m} ⟨o,es,ep,e,d,r⟩=>⟨o,es,ep,sP e (noA e d),d,r⟩;have hKb:K.In (m5 s₁.heap H):=fun b o e=>sP (KX b o e) (by
   cases q:H b with
   |none=>rfl
   |some u=>have e':b=a:=hA b (by rw[q];simp);subst e';rw[hK (by rw[q];simp)]at e;cases e)
  have hM:Mod K mg (m5 s₁.heap H):=⟨hKb,nsK hns,⟨mb,nsK hb,hbb⟩,let ⟨mc,h1,h2⟩:=hlim;⟨mc,nsK h1,h2⟩⟩
  have e0:zI P w K mg (m5 s₁.heap H) callerA [] s₁ H:=⟨rfl,hM,fun b o e=>zw e,Nat.le_of_eq (uA _ _),trivial,fun b hb=>absurd (show b∈([]:List Addr) from hb) (by simp),hok,.of_eq hg⟩
  refine codeAny_mono ((F _ hKb (nsK hns)).run callerA [] s₁ H ⟨[.ref a],[]⟩ [.ref a] [.ref a] _ _ hr e0 (hbind s₁ (.ref a)) (.cons rfl .nil) (hsp H hO hS)) fun r s' h=>?_;cases r with
  |error e=>exact(hCX H e s' h).elim
  |ok fl=>
   cases fl with
   |next=>exact J7 h
   |brk=>exact J7 h
   |cont=>exact J7 h
   |ret u=>
    obtain⟨v,H',os,bare,un,Ii,r',q⟩:=h;have q':v=.bl true:=q;subst q';obtain rfl:u=Mj true:=r';refine⟨rfl,OldK.of_keep fun b o e=>?_,os,bare⟩;cases q:H b with
    |none=>exact un.keep b o e q (by intro z;exact absurd (show b∈([]:List Addr) from z) (by simp)) (by simp)
    |some u=>
     rcases hO b with z | ⟨ob,xs,z⟩
     ·rw[q]at z;cases z
     ·have z2:=un.mZ b ob _ z;obtain⟨e1,_⟩:=hok b _ z;obtain⟨e2,_⟩:=Ii b _ z2;rw[e]at e1;cases e1;exact e2
 cases hk:K.lookup a with
 |some o=>have e:=KX a o hk;rw[ha]at e;cases e;refine core (fun _=>none) (fun _=>.inl rfl) (.inr ⟨_,vs.toArray,_,hk,rfl,rfl,rfl,by rw[JR,Ih];exact hl,by simpa using rv⟩) (fun b u z=>by have z':(none:Option HO)=some u:=z;cases z') (fun b z=>absurd rfl z) fun z=>absurd rfl z
 |none=>
  refine core (fun b=>if b=a then some (.frz { cls:=.type "list",data:=.seq vs.toArray } (.lst (ns.map V.int))) else none) (fun b=>?_) (.inl (.inr ⟨{ cls:=.type "list",data:=.seq vs.toArray },if_pos rfl⟩)) (fun b u z=>?_) (fun b z=>?_) fun _=>hk
  ·by_cases hb:b=a
   ·exact .inr ⟨_,_,if_pos hb⟩
   ·exact .inl (if_neg hb)
  ·by_cases hb:b=a
   ·have z':=(if_pos hb).symm.trans z;cases z';subst hb;exact⟨ha,by rw[JM];exact hl,vs,_,rv,ha⟩
   ·have z':=(if_neg hb).symm.trans z;cases z'
  ·by_cases hb:b=a
   ·exact hb
   ·exact absurd (if_neg hb) z
theorem zN{l:L1}{n k:Nat}{q:Program}{loose:List Str}{XP:(Str->Option Value)->Heap->Prop}{YP:World->Heap->Prop}{d:DefRec}{K:Params->Js}{CX:World->CXT}{sp:World->Sp}{x:Str}
  (hn:l.most=some n) (hn2:n<=sizeLine) (hdf:d.params.defaults=[]) (hr:cj k callerA)
  (hY:∀(w:World) (h:Heap),YP w h->(K w.params).In h)
  (F:∀ (w:World) (mg:Str→Option Value) (fa:Addr) (h:Heap),(K w.params).In h→h.Ns mainGlobals mg→mg d.name=some (.ref fa) →
   ∃fd:FuncData,(∀(s:Shared) (u:Value),BindsTo s fd ⟨[u],[]⟩ [(x,u)]) /\
    ∀base:Heap,(K w.params).In base->base.Ns mainGlobals mg->bK l.prog w (K w.params) mg base (CX w) k fa fd [x] (sp w))
  (hsp:∀(w:World) (H:Hp) (a:Addr) (ns:List Int),ns.length<=n->CU H->SqL (K w.params) H a (ns.map V.int)->sp w [.ref a] H (fun v _=>v=.bl true) fun _ _ _=>False)
  (hCX:∀(w:World) (H:Hp) (s:Shared) (e:Value) (s':Shared),CX w [] H s (fun _ _ _=>False) e s'->False) :
  PySem.W.WalkO q loose XP YP l.row.toRowW d [] (fun f vs=>PySem.call f vs):=by
 refine Att.oQ hn hdf fun w s₀ s₁ mg mb fa o pm cd doc a vs ns G Y ho hd IU hmg hobj hints AY hg=>?_;have KX:=hY w _ Y;obtain⟨fd,hb,hF⟩:=F w mg fa _ KX G.T.g hmg;exact wc KX G.T.g G.T.b G.T.builtins G.T.nolimit hg hobj hints (JU AY hn2) hr hF hb (fun H hO hS=>hsp w H a ns AY hO hS) fun H e s'=>hCX w H s₁ e s'
noncomputable def bV(s:Stmt):Arguments:=match s with
 |.FunctionDef _ a _ _ _ _ _ _ _ _=>a
 |_=>{ posonlyargs:=[],args:=[],vararg:=none,kwonlyargs:=[],kw_defaults:=[],kwarg:=none,defaults:=[] }
noncomputable def bM(s:Stmt):List Stmt:=match s with
 |.FunctionDef _ _ b _ _ _ _ _ _ _=>b
 |_=>[]
noncomputable def ah(s:Stmt):Scope:=match s with
 |.FunctionDef _ _ _ _ _ _ sc _ _ _=>sc
 |_=>{ kind:=.function,names:=[],isGenerator:=false,isCoroutine:=false }
noncomputable abbrev CX0:CXT:=fun _ _ _ _ _ _=>False
noncomputable abbrev E0:XK:=fun _ _ _=>False
theorem we{X:Cx}:Passes CX0 X E0:=fun _ _ _ _ _ _ _ h=>h.elim
structure Fun(K:Js)(x qual:Str)(st:Stmt)(f:Addr)(fd:FuncData):Prop where
 ex:∃(oc:Value) (od:Option Addr) (kV doc pm:Value) (an:Option Addr) (cdv ct:Value) (osl:Array (Option Value)),
  fd=Kh x qual (bV st) (bM st) (ah st) .none kV doc pm an cdv ct/\K.lookup f=some ⟨oc,od,.func fd,osl⟩/\LG K cdv qual=true
 kp:KQ K (.ref f)=true
section
variable{P:Program}{w:World}{K:Js}{mg:Str->Option Value}{base:Heap}
section
variable{x qual:Str}{st:Stmt}{fd:FuncData}{f:Addr}
theorem Fun.ok{N ps:List Str}{k:Nat}{sp:Sp}(F:Fun K x qual st f fd)(S:aF N ps (ah st))(len:∀vs H Q E,sp vs H Q E->vs.length=ps.length)
  (hbody:∀ (cdv:Value) (A:Around) (outer:List Env) (s:Shared) (H:Hp) (vs:List V) (Q:VK) (E:XK),cj k (A.deeper (envOfC qual (ah st) s.heap.objs.size f cdv))→sp vs H Q E →
   ∃t,PSs (qQ CX0 P w K mg base N qual (ah st) f cdv A outer s H E).nox (bM st) t/\t { nx:=fun _ H'=>Q .non H',rt:=Q } (start N vs) H):bK P w K mg base CX0 (k+1) f fd ps sp:=by
 obtain⟨oc,od,kV,doc,pm,an,cdv,ct,osl,rfl,lk,IU⟩:=F.ex;refine Fj lk IU S len fun A outer s H vs Q E hr hsp=>?_;obtain⟨t,h,q⟩:=hbody cdv A outer s H vs Q E hr hsp;exact⟨t,h.nox,q⟩
theorem Fun.binds{ps:List Str}(F:Fun K x qual st f fd)
  (h:∀(kV doc pm:Value) (an:Option Addr) (cdv ct:Value) (us:List Value),us.length=ps.length->bindArgs (Kh x qual (bV st) (bM st) (ah st) .none kV doc pm an cdv ct) ⟨us,[]⟩=pure (ps.zip us)):Binds K fd ps []:=by
 obtain⟨oc,od,kV,doc,pm,an,cdv,ct,osl,rfl,lk,IU⟩:=F.ex;exact .all (h kV doc pm an cdv ct)
theorem CV{oc:Value}{od an:Option Addr}{osl:Array (Option Value)}{kV doc pm cdv ct:Value}(l:K.lookup f=some ⟨oc,od,.func (Kh x qual (bV st) (bM st) (ah st) .none kV doc pm an cdv ct),osl⟩)
  (c:LG K cdv qual=true) (k:KQ K (.ref f)=true):Fun K x qual st f (Kh x qual (bV st) (bM st) (ah st) .none kV doc pm an cdv ct):=⟨⟨oc,od,kV,doc,pm,an,cdv,ct,osl,rfl,l,c⟩,k⟩
end
end
def au(H H':Hp):Prop:=∀b o,H b=some o->H' b=some o
theorem au.refl(H:Hp):au H H:=fun _ _ h=>h
theorem au.trans{H H1 H2:Hp}(a:au H H1)(b:au H1 H2):au H H2:=fun c o h=>b c o (a c o h)
theorem au.free{H H':Hp}(e:au H H'){l:Addr}(h:H' l=Option.none):H l=Option.none:=by
 cases q:H l with
 |none=>rfl
 |some o=>rw[e l o q]at h;cases h
section
variable{P:Program}{w:World}{H:Hp}{h:Heap}{a:Addr}
theorem Ft{u:HO}(ok:HOk P w H h)(e:Rd H a u):bX P w H h a u:=e.ok ok
theorem Fv{kvs:List (Key×V)}(ok:HOk P w H h)(e:Rd H a (.dK kvs)):kvs.length<=sizeLine/\(a == sysModules)=false/\∃vs,KV kvs vs/\h.DictOf (jE P w) a vs:=
 show bX P w H h a (.dK kvs) from Ft ok e
theorem Fw{kvs:List (Key×V)}(ok:HOk P w H h)(e:H a=some (.dK kvs)):kvs.length<=sizeLine/\(a == sysModules)=false/\∃vs,KV kvs vs/\h.DictOf (jE P w) a vs:=Fv ok (.inl e)
end
end L2
namespace Dm
inductive Dat where
 |non
 |bl (b:Bool)
 |int (i:Int)
 |str (s:List Nat)
 |tup (xs:List Dat)
 |lst (xs:List Dat)
 |dct (ks:List Int) (vs:List Dat)
 |dcp (ks:List (Int×Int)) (vs:List Dat)
 |exc (C:Nat)
 |cU (C:Nat) (v:Int)
 |fn (a:Nat)
deriving Inhabited
inductive Cell where
 |un
 |sh (d:Dat)
 |ow (d:Dat)
deriving Inhabited
noncomputable abbrev Env:=List Cell
inductive Val where
 |val (d:Dat)
 |slot (i:Nat)
 |new (d:Dat)
inductive RV where
 |val (d:Dat)
 |new (d:Dat)
noncomputable def RV.dat:RV->Dat
 |.val d=>d
 |.new d=>d
noncomputable def RV.ay:RV->Val
 |.val d=>.val d
 |.new d=>.new d
noncomputable def SZ:Nat:=100000
noncomputable def aG:Dat->Bool
 |.tup _=>true
 |.lst _=>true
 |.dct _ _=>true
 |.dcp _ _=>true
 |.exc _=>true
 |.cU _ _=>true
 |_=>false
noncomputable def pk(ρ:Env):Val->Option Dat
 |.val d=>some d
 |.new d=>some d
 |.slot i=>match ρ[i]? with
  |some (.ow d)=>some d
  |some (.sh d)=>some d
  |_=>none
noncomputable def tk(ρ:Env):Val->Option (Dat×Env)
 |.val d=>some (d,ρ)
 |.new d=>some (d,ρ)
 |.slot i=>match ρ[i]? with
  |some (.ow d)=>some (d,ρ.set i (.sh d))
  |some (.sh d)=>some (d,ρ)
  |_=>none
noncomputable def pks(ρ:Env):List Val->Option (List Dat)
 |[]=>some []
 |x::r=>match pk ρ x with
  |none=>none
  |some d=>match pks ρ r with
   |none=>none
   |some ds=>some (d::ds)
noncomputable def tks(ρ:Env):List Val->Option (List Dat×Env)
 |[]=>some ([],ρ)
 |x::r=>match tk ρ x with
  |none=>none
  |some (d,ρ1)=>match tks ρ1 r with
   |none=>none
   |some (ds,ρ2)=>some (d::ds,ρ2)
noncomputable abbrev FE:=Env->Option (Val×Env)
noncomputable abbrev FT:=Env->Option (Bool×Env)
noncomputable def eC(d:Dat):FE:=fun ρ=>some (.val d,ρ)
noncomputable def eV(i:Nat):FE:=fun ρ=>match ρ[i]? with
 |some (.sh d)=>some (.val d,ρ)
 |some (.ow _)=>some (.slot i,ρ)
 |_=>none
noncomputable def e1(g:Dat->Option RV)(a:FE):FE:=fun ρ=>match a ρ with
 |none=>none
 |some (x,ρ1)=>match pk ρ1 x with
  |none=>none
  |some d=>match g d with
   |none=>none
   |some v=>some (v.ay,ρ1)
noncomputable def e2(g:Dat->Dat->Option RV)(a b:FE):FE:=fun ρ=>match a ρ with
 |none=>none
 |some (x,ρ1)=>match b ρ1 with
  |none=>none
  |some (y,ρ2)=>match pk ρ2 x with
   |none=>none
   |some d=>match pk ρ2 y with
    |none=>none
    |some e=>match g d e with
     |none=>none
     |some v=>some (v.ay,ρ2)
noncomputable def eAs:List FE->Env->Option (List Val×Env)
 |[],ρ=>some ([],ρ)
 |a::r,ρ=>match a ρ with
  |none=>none
  |some (x,ρ1)=>match eAs r ρ1 with
   |none=>none
   |some (xs,ρ2)=>some (x::xs,ρ2)
noncomputable def eB(g:List Dat->Option RV)(as:List FE):FE:=fun ρ=>match eAs as ρ with
 |none=>none
 |some (xs,ρ1)=>match pks ρ1 xs with
  |none=>none
  |some ds=>match g ds with
   |none=>none
   |some v=>some (v.ay,ρ1)
noncomputable def a_(as:List FE):FE:=fun ρ=>match eAs as ρ with
 |none=>none
 |some (xs,ρ1)=>match tks ρ1 xs with
  |none=>none
  |some (ds,ρ2)=>if ds.length<=SZ then some (.val (.tup ds),ρ2) else none
noncomputable def aW(as:List FE):FE:=fun ρ=>match eAs as ρ with
 |none=>none
 |some (xs,ρ1)=>match tks ρ1 xs with
  |none=>none
  |some (ds,ρ2)=>if ds.length<=SZ then some (.new (.lst ds),ρ2) else none
noncomputable def eF(f:List Dat->Option RV)(as:List FE):FE:=fun ρ=>match eAs as ρ with
 |none=>none
 |some (xs,ρ1)=>match pks ρ1 xs with
  |none=>none
  |some ds=>match f ds with
   |none=>none
   | some v=>if aG v.dat then (match tks ρ1 xs with
     |none=>none
     |some (_,ρ2)=>some (v.ay,ρ2)) else some (v.ay,ρ1)
noncomputable def eIf(t:FT)(a b:FE):FE:=fun ρ=>match t ρ with
 |none=>none
 |some (true,ρ1)=>a ρ1
 |some (false,ρ1)=>b ρ1
noncomputable def bq(a b:FE):FE:=fun ρ=>match a ρ with
 |some (.val (.bl true),ρ1)=>b ρ1
 |some (.val (.bl false),ρ1)=>some (.val (.bl false),ρ1)
 |_=>none
noncomputable def bC(a:FE):FE:=fun ρ=>match a ρ with
 |some (.val (.bl c),ρ1)=>some (.val (.bl (!c)),ρ1)
 |_=>none
noncomputable def tV(a:FE):FT:=fun ρ=>match a ρ with
 |some (.val (.bl c),ρ1)=>some (c,ρ1)
 |_=>none
noncomputable def aR(t:FT):FT:=fun ρ=>match t ρ with
 |some (c,ρ1)=>some (!c,ρ1)
 |none=>none
noncomputable def bz(t u:FT):FT:=fun ρ=>match t ρ with
 |some (true,ρ1)=>u ρ1
 |some (false,ρ1)=>some (false,ρ1)
 |none=>none
noncomputable def tOr(t u:FT):FT:=fun ρ=>match t ρ with
 |some (true,ρ1)=>some (true,ρ1)
 |some (false,ρ1)=>u ρ1
 |none=>none
noncomputable def az:FT:=fun ρ=>some (true,ρ)
noncomputable abbrev FI:=Env->Option (List Dat×Env)
noncomputable def iL(a:FE):FI:=fun ρ=>match a ρ with
 |none=>none
 |some (x,ρ1)=>match tk ρ1 x with
  |some (.lst ds,ρ2)=>some (ds,ρ2)
  |_=>none
noncomputable def iT(a:FE):FI:=fun ρ=>match a ρ with
 |none=>none
 |some (x,ρ1)=>match tk ρ1 x with
  |some (.tup ds,ρ2)=>some (ds,ρ2)
  |_=>none
noncomputable def iS(a:FE):FI:=fun ρ=>match a ρ with
 |none=>none
 |some (x,ρ1)=>match tk ρ1 x with
  |some (.lst ds,ρ2)=>some (ds,ρ2)
  |some (.tup ds,ρ2)=>some (ds,ρ2)
  |_=>none
noncomputable def ups(lo:Int)(n:Nat):List Dat:=(Ka n).map fun i=>Dat.int (lo+(i:Nat))
noncomputable def downs(hi:Int)(n:Nat):List Dat:=(Ka n).map fun i=>Dat.int (hi-(i:Nat))
noncomputable def BIG:Int:=1000000000
noncomputable def iR1(a:FE):FI:=fun ρ=>match a ρ with
 |some (.val (.int j),ρ1)=>if j<=BIG/\-BIG<=j then some (ups 0 j.toNat,ρ1) else none
 |_=>none
noncomputable def iR2(a b:FE):FI:=fun ρ=>match a ρ with
 | some (.val (.int i),ρ1)=>(match b ρ1 with
  |some (.val (.int j),ρ2)=>if j<=BIG/\-BIG<=j/\i<=BIG/\-BIG<=i then some (ups i (j-i).toNat,ρ2) else none
  |_=>none)
 |_=>none
noncomputable abbrev FB:=Dat->Env->Option Env
noncomputable def bN(i:Nat):FB:=fun d ρ=>if i=0 then none else some (ρ.set i (.sh d))
noncomputable def sets:List Nat->List Dat->Env->Option Env
 |[],[],ρ=>some ρ
 |i::is,d::ds,ρ=>if i=0 then none else sets is ds (ρ.set i (.sh d))
 |_,_,_=>none
noncomputable def bT(is:List Nat):FB:=fun d ρ=>match d with
 |.tup ds=>sets is ds ρ
 |_=>none
noncomputable def b7(bd:FB)(t:FT)(el:FE):List Dat->Env->List Dat->Option (List Dat×Env)
 |[],ρ,kM=>some (kM,ρ)
 |d::r,ρ,kM=>match bd d ρ with
  |none=>none
  |some ρ1=>match t ρ1 with
   |none=>none
   |some (false,ρ2)=>b7 bd t el r ρ2 kM
   |some (true,ρ2)=>match el ρ2 with
    |none=>none
    |some (x,ρ3)=>match tk ρ3 x with
     |none=>none
     |some (y,ρ4)=>b7 bd t el r ρ4 (kM++[y])
noncomputable def bS(it:FI)(own:Nat)(bd:FB)(t:FT)(el:FE):FE:=fun ρ=>match it ρ with
 |none=>none
 | some (ds,ρ1)=>if ds.length≤SZ then (match b7 bd t el ds (ρ1++gc own .un) [] with
  |none=>none
  |some (ys,ρ2)=>some (.new (.lst ys),ρ2.take ρ1.length)) else none
inductive Out where
 |nx (ρ:Env)
 |ret (r:RV) (ρ:Env)
 |bk (ρ:Env)
 |ct (ρ:Env)
noncomputable abbrev FS:=Env->Option Out
noncomputable def sNx:FS:=fun ρ=>some (.nx ρ)
noncomputable def ai(s u:FS):FS:=fun ρ=>match s ρ with
 |some (.nx ρ1)=>u ρ1
 |o=>o
noncomputable def sA(i:Nat)(e:FE):FS:=fun ρ=>if i=0 then none else match e ρ with
 |none=>none
 |some (.new d,ρ1)=>some (.nx (ρ1.set i (.ow d)))
 |some (x,ρ1)=>match tk ρ1 x with
  |none=>none
  |some (d,ρ2)=>some (.nx (ρ2.set i (.sh d)))
noncomputable def sU(is:List Nat)(e:FE):FS:=fun ρ=>match e ρ with
 |none=>none
 |some (x,ρ1)=>match tk ρ1 x with
  | some (.tup ds,ρ2)=>(match sets is ds ρ2 with
   |none=>none
   |some ρ3=>some (.nx ρ3))
  |_=>none
noncomputable def sE(e:FE):FS:=fun ρ=>match e ρ with
 |none=>none
 |some (_,ρ1)=>some (.nx ρ1)
noncomputable def sR(e:FE):FS:=fun ρ=>match e ρ with
 |none=>none
 |some (.new d,ρ1)=>some (.ret (.new d) ρ1)
 |some (.val d,ρ1)=>some (.ret (.val d) ρ1)
 |some (.slot i,ρ1)=>match ρ1[i]? with
  |some (.ow d)=>some (.ret (.new d) (ρ1.set i .un))
  |some (.sh d)=>some (.ret (.val d) ρ1)
  |_=>none
noncomputable def sIf(t:FT)(a b:FS):FS:=fun ρ=>match t ρ with
 |none=>none
 |some (true,ρ1)=>a ρ1
 |some (false,ρ1)=>b ρ1
noncomputable def bA(i:Nat)(e:FE):FS:=fun ρ=>match ρ[i]? with
 | some (.ow (.lst _))=>(match e ρ with
  |none=>none
  |some (x,ρ1)=>match tk ρ1 x with
   |none=>none
   |some (d,ρ2)=>match ρ2[i]? with
    |some (.ow (.lst ds))=>if ds.length<SZ then some (.nx (ρ2.set i (.ow (.lst (ds++[d]))))) else none
    |_=>none)
 |_=>none
noncomputable def ixN(n:Nat)(i:Int):Option Nat:=
 if 0<=i then (if i<n then some i.toNat else none) else if -(n:Int)<=i then some (i+n).toNat else none
noncomputable def bB(i:Nat)(j e:FE):FS:=fun ρ=>match e ρ with
 |none=>none
 |some (x,ρ1)=>match tk ρ1 x with
  |none=>none
  |some (d,ρ2)=>match ρ2[i]? with
   | some (.ow _)=>(match j ρ2 with
    | some (.val (.int k),ρ3)=>(match ρ3[i]? with
     | some (.ow (.lst ds))=>(match ixN ds.length k with
      |none=>none
      |some m=>some (.nx (ρ3.set i (.ow (.lst (ds.set m d))))))
     |_=>none)
    |_=>none)
   |_=>none
noncomputable def cy(bd:FB)(body:FS):List Dat->FS
 |[],ρ=>some (.nx ρ)
 |d::r,ρ=>match bd d ρ with
  |none=>none
  |some ρ1=>match body ρ1 with
   |some (.nx ρ2)=>cy bd body r ρ2
   |some (.ct ρ2)=>cy bd body r ρ2
   |some (.bk ρ2)=>some (.nx ρ2)
   |some (.ret v ρ2)=>some (.ret v ρ2)
   |none=>none
noncomputable def aY(it:FI)(bd:FB)(body:FS):FS:=fun ρ=>match it ρ with
 |none=>none
 |some (ds,ρ1)=>cy bd body ds ρ1
noncomputable def whD(t:FT)(body:FS):Nat->FS
 |0,_=>none
 |n+1,ρ=>match t ρ with
  |none=>none
  |some (false,ρ1)=>some (.nx ρ1)
  |some (true,ρ1)=>match body ρ1 with
   |some (.nx ρ2)=>whD t body n ρ2
   |some (.ct ρ2)=>whD t body n ρ2
   |some (.bk ρ2)=>some (.nx ρ2)
   |some (.ret v ρ2)=>some (.ret v ρ2)
   |none=>none
noncomputable def fn(n m:Nat)(body:FS)(ds:List Dat):Option RV:=if ds.length=n then (match body (ds.map Cell.sh++gc m .un) with
 |some (.ret r _)=>some r
 |some (.nx _)=>some (.val .non)
 |_=>none) else none
noncomputable def b2i(b:Bool):Int:=if b then 1 else 0
mutual
noncomputable def eqD:Dat->Dat->Bool
 |.non,.non=>true
 |.bl a,.bl b=>a == b
 |.bl a,.int j=>b2i a == j
 |.int i,.bl b=>i == b2i b
 |.int i,.int j=>i == j
 |.str a,.str b=>a == b
 |.tup xs,.tup ys=>iM xs ys
 |.lst xs,.lst ys=>iM xs ys
 |_,_=>false
noncomputable def iM:List Dat->List Dat->Bool
 |[],[]=>true
 |x::xs,y::ys=>eqD x y&&iM xs ys
 |_,_=>false
end
noncomputable def okD:Nat->Dat->Bool
 |_,.dct _ _=>false
 |_,.dcp _ _=>false
 |_,.exc _=>false
 |_,.cU _ _=>false
 |_,.fn _=>false
 |_,.str s=>s.all fun c=>decide (c<128)
 |0,.tup _=>false
 |0,.lst _=>false
 |n+1,.tup xs=>xs.all (okD n)
 |n+1,.lst xs=>xs.all (okD n)
 |_,_=>true
noncomputable abbrev vB(b:Bool):Option RV:=some (.val (.bl b))
noncomputable def jB(p:Dat->Bool):Dat->Option RV
 |.exc _=>none
 |.cU _ _=>none
 |.fn _=>none
 |d=>vB (p d)
noncomputable abbrev vI(i:Int):Option RV:=some (.val (.int i))
noncomputable def gEq(x y:Dat):Option RV:=if okD 8 x&&okD 8 y then vB (eqD x y) else none
noncomputable def gNe(x y:Dat):Option RV:=if okD 8 x&&okD 8 y then vB (!eqD x y) else none
noncomputable def gLt:Dat->Dat->Option RV
 |.int i,.int j=>vB (decide (i<j))
 |_,_=>none
noncomputable def gLe:Dat->Dat->Option RV
 |.int i,.int j=>vB (decide (i<=j))
 |_,_=>none
noncomputable def gGt:Dat->Dat->Option RV
 |.int i,.int j=>vB (decide (j<i))
 |_,_=>none
noncomputable def B64:Int:=18446744073709551616
noncomputable def aN:Dat->Dat->Option RV
 |.int i,.int j=>vI (i+j)
 |.lst xs,.lst ys=>if xs.length+ys.length<=SZ then some (.new (.lst (xs++ys))) else none
 |_,_=>none
noncomputable def aZ:Dat->Dat->Option RV
 |.int i,.int j=>vI (i-j)
 |_,_=>none
noncomputable def aS:Dat->Dat->Option RV
 |.int i,.int j=>if (-B64<i/\i<B64)\/(-B64<j/\j<B64) then vI (i*j) else none
 |.lst xs,.int k=>if k<=BIG/\-BIG<=k/\xs.length*k.toNat<=SZ then some (.new (.lst (gc k.toNat xs).flatten)) else none
 |_,_=>none
noncomputable def dW:Int:=1606938044258990275541962092341162602522202993782792835301376
noncomputable def aX:Dat->Dat->Option RV
 |.int i,.int j=>if 0<j/\j<dW then vI (i / j) else none
 |_,_=>none
noncomputable def aE:Dat->Dat->Option RV
 |.int i,.int j=>if 0<j then vI (i % j) else none
 |_,_=>none
noncomputable def br:Dat->Dat->Option RV
 |.int i,.int j=>if 0<=j/\j<=1000000/\i.natAbs<1000000 then vI (i ^ j.toNat) else none
 |_,_=>none
noncomputable def bu:Dat->Option RV
 |.int i=>vI (-i)
 |_=>none
noncomputable def atI(xs:List Dat)(i:Int):Option Dat:=(ixN xs.length i).bind fun j=>xs[j]?
noncomputable def gIx:Dat->Dat->Option RV
 |.lst xs,.int i=>(atI xs i).map .val
 |.tup xs,.int i=>(atI xs i).map .val
 |_,_=>none
noncomputable def inD(x:Dat)(xs:List Dat):Bool:=xs.any fun y=>eqD y x
noncomputable def gIn:Dat->Dat->Option RV
 |x,.lst xs=>if okD 8 x&&xs.all (okD 7) then vB (inD x xs) else none
 |x,.tup xs=>if okD 8 x&&xs.all (okD 7) then vB (inD x xs) else none
 |_,_=>none
noncomputable def iN:Dat->Dat->Option RV
 |x,.lst xs=>if okD 8 x&&xs.all (okD 7) then vB (!inD x xs) else none
 |x,.tup xs=>if okD 8 x&&xs.all (okD 7) then vB (!inD x xs) else none
 |_,_=>none
noncomputable def sIx(n d:Nat):Option Int->Nat
 |none=>d
 |some v=>(if v<0 then max (v+n) 0 else min v n).toNat
noncomputable def cut(xs:List Dat)(lo hi:Option Int):List Dat:=(xs.drop (sIx xs.length 0 lo)).take (sIx xs.length xs.length hi-sIx xs.length 0 lo)
noncomputable def aU:List Dat->Option RV
 |[.lst xs]=>vI xs.length
 |[.tup xs]=>vI xs.length
 |_=>none
noncomputable def aL:List Dat->Option RV
 |[.int i,.int j]=>vI (if j<i then j else i)
 |_=>none
noncomputable def aQ:List Dat->Option RV
 |[.int i,.int j]=>vI (if j>i then j else i)
 |_=>none
noncomputable def aT:List Dat->Option RV
 |[.lst xs]=>some (.new (.lst xs))
 |[.tup xs]=>some (.new (.lst xs))
 |_=>none
noncomputable def isI:Dat->Bool
 |.int _=>true
 |.bl _=>true
 |_=>false
noncomputable def isB:Dat->Bool
 |.bl _=>true
 |_=>false
noncomputable def isL:Dat->Bool
 |.lst _=>true
 |_=>false
noncomputable def isT:Dat->Bool
 |.tup _=>true
 |_=>false
noncomputable def bools:List Dat->Option (List Bool)
 |[]=>some []
 |.bl b::r=>(bools r).map fun bs=>b::bs
 |_=>none
noncomputable def oR:List Dat->Option RV
 | [.lst xs]=>(match bools xs with
  |some bs=>vB (bs.all id)
  |none=>none)
 |_=>none
noncomputable def ao(g h:Dat->Dat->Option RV)(a b c:FE):FE:=fun ρ=>match a ρ with
 |none=>none
 |some (x,ρ1)=>match b ρ1 with
  |none=>none
  |some (y,ρ2)=>match pk ρ2 x with
   |none=>none
   |some d=>match pk ρ2 y with
    |none=>none
    |some e=>match g d e with
     | some (.val (.bl true))=>(match c ρ2 with
      |none=>none
      |some (z,ρ3)=>match pk ρ3 y with
       |none=>none
       |some e'=>match pk ρ3 z with
        |none=>none
        |some f=>match h e' f with
         |none=>none
         |some v=>some (v.ay,ρ3))
     |some (.val (.bl false))=>some (.val (.bl false),ρ2)
     |_=>none
noncomputable def part:Option FE->Env->Option (Option Int×Env)
 |none,ρ=>some (none,ρ)
 |some f,ρ=>match f ρ with
  |some (.val (.int i),ρ1)=>some (some i,ρ1)
  |_=>none
noncomputable def eSl(a:FE)(lo hi:Option FE):FE:=fun ρ=>match a ρ with
 |none=>none
 |some (x,ρ1)=>match part lo ρ1 with
  |none=>none
  |some (l,ρ2)=>match part hi ρ2 with
   |none=>none
   |some (h,ρ3)=>match pk ρ3 x with
    |some (.lst xs)=>some (.new (.lst (cut xs l h)),ρ3)
    |_=>none
noncomputable def aO:List Dat->Option RV
 |[.int a,.int b,.int c]=>vI (if b<a then (if c<b then c else b) else (if c<a then c else a))
 |_=>none
noncomputable def bits(x:Int):Int:=if x=0 then 0 else ((x.natAbs.log2+1:Nat):Int)
noncomputable def aH:Dat->Option RV
 |.int i=>vI (bits i)
 |_=>none
noncomputable def bD:List Dat->Option RV
 |[.int i]=>vI i
 |[.bl b]=>vI (b2i b)
 |_=>none
end Dm
open Dm(Dat FE RV FT FS)
namespace Br
open PySem L2
noncomputable def kP(p:Int×Int):List Key:=[K2 p.1,K2 p.2]
def iO(H:Hp):List Addr->List (Int×Int)->Prop
 |[],[]=>True
 |t::ts,p::ks=>H t=some (.tup [V.int p.1,V.int p.2])/\iO H ts ks
 |_,_=>False
theorem iO.mono{H H':Hp}(s:au H H'):∀{ts:List Addr} {ks:List (Int×Int)},iO H ts ks->iO H' ts ks
 |[],[],_=>trivial
 |_::_,_::_,h=>⟨s _ _ h.1,iO.mono s h.2⟩
 |[],_::_,h=>h
 |_::_,[],h=>h
def wg(H:Hp)(x:List (List Key×V)×List Addr)(ks:List (Int×Int)):Prop:=x.1.map (·.1)=ks.map kP/\iO H x.2 ks
theorem wg.mono{H H':Hp}(s:au H H'){x:List (List Key×V)×List Addr}{ks:List (Int×Int)}(h:wg H x ks):wg H' x ks:=⟨h.1,h.2.mono s⟩
mutual
inductive Rep(H:Hp):V->Dat->Prop
 |non:Rep H V.non Dat.non
 |bl (b:Bool):Rep H (V.bl b) (Dat.bl b)
 |int (i:Int):Rep H (V.int i) (Dat.int i)
 |str (s:List Nat):Rep H (V.str ⟨s.toArray⟩) (Dat.str s)
 |tup {a:Addr} {xs:List V} {ds:List Dat}:H a=some (.tup xs)->aI H xs ds->Rep H (V.ref a) (Dat.tup ds)
 |lst {a:Addr} {xs:List V} {ds:List Dat}:Rd H a (.lst xs)->aI H xs ds->Rep H (V.ref a) (Dat.lst ds)
 |dct {a:Addr} {kvs:List (Key×V)} {ks:List Int} {ds:List Dat}:H a=some (.dK kvs)->kvs.map (·.1)=ks.map K2->aI H (kvs.map (·.2)) ds->Rep H (V.ref a) (Dat.dct ks ds)
 |dcp {a:Addr} {x:List (List Key×V)×List Addr} {ks:List (Int×Int)} {ds:List Dat}:H a=some (.dT x.1 x.2)->wg H x ks->aI H (x.1.map (·.2)) ds->Rep H (V.ref a) (Dat.dcp ks ds)
 |exc {a:Addr} {C:Nat}:H a=some (.ext fun h=>∃o,h.get? a=some o/\o.cls=.ref C)->Rep H (V.ref a) (Dat.exc C)
 |cU {a d:Addr} {C:Nat} {v:Int}:H a=some (.ext fun h=>∃o,h.get? a=some o/\o.cls=.ref C/\o.dict=some d/\∀c,o.data≠.cls c)->H d=some (.xd [("moment",.int v)])->Rep H (V.ref a) (Dat.cU C v)
 |fn (a:Addr):Rep H (V.ref a) (Dat.fn a)
inductive aI(H:Hp):List V->List Dat->Prop
 |nil:aI H [] []
 |cons {v:V} {d:Dat} {vs:List V} {ds:List Dat}:Rep H v d->aI H vs ds->aI H (v::vs) (d::ds)
end
theorem au.rd{H H':Hp}(s:au H H'){a:Addr}{u:HO}(h:Rd H a u):Rd H' a u:=by
 rcases h with h | ⟨o,h⟩
 ·exact .inl (s _ _ h)
 ·exact .inr ⟨o,s _ _ h⟩
mutual
theorem Rep.mono{H H':Hp}(s:au H H'):∀{v:V} {d:Dat},Rep H v d->Rep H' v d
 |_,_,.non=>.non
 |_,_,.bl b=>.bl b
 |_,_,.int i=>.int i
 |_,_,.str x=>.str x
 |_,_,.tup h r=>.tup (s _ _ h) (aI.mono s r)
 |_,_,.lst h r=>.lst (au.rd s h) (aI.mono s r)
 |_,_,.dct h e r=>.dct (s _ _ h) e (aI.mono s r)
 |_,_,.dcp h e r=>.dcp (s _ _ h) (e.mono s) (aI.mono s r)
 |_,_,.exc h=>.exc (s _ _ h)
 |_,_,.cU h k=>.cU (s _ _ h) (s _ _ k)
 |_,_,.fn a=>.fn a
theorem aI.mono{H H':Hp}(s:au H H'):∀{vs:List V} {ds:List Dat},aI H vs ds->aI H' vs ds
 |_,_,.nil=>.nil
 |_,_,.cons h r=>.cons (Rep.mono s h) (aI.mono s r)
end
section
variable{ρ:Dm.Env}{H0 H:Hp}{d:Dat}{σ:St}{a:Addr}{x:Dm.Val}{v:V}{X:Cx}{t t':TS}{p:Addr}{e:Expr}{o:HO}
theorem aI.length{H:Hp}:∀{vs:List V} {ds:List Dat},aI H vs ds->vs.length=ds.length
 |_,_,.nil=>rfl
 |_,_,.cons _ r=>by simp[aI.length r]
theorem aI.get{H:Hp}:∀{vs:List V} {ds:List Dat} {i:Nat} {d:Dat},aI H vs ds->ds[i]?=some d->∃v,vs[i]?=some v/\Rep H v d
 |_,_,_,_,.nil,e=>by simp at e
 |_,_,0,_,.cons h _,e=>by simp at e;subst e;exact⟨_,rfl,h⟩
 |_,_,i+1,_,.cons _ r,e=>by obtain⟨v,h1,h2⟩:=aI.get (i:=i) r (by simpa using e);exact⟨v,by simpa using h1,h2⟩
theorem aI.append{H:Hp}:∀{vs ws:List V} {ds es:List Dat},aI H vs ds->aI H ws es->aI H (vs++ws) (ds++es)
 |_,_,_,_,.nil,s=>s
 |_,_,_,_,.cons h r,s=>.cons h (aI.append r s)
theorem aI.take{H:Hp}:∀{vs:List V} {ds:List Dat} (n:Nat),aI H vs ds->aI H (vs.take n) (ds.take n)
 |_,_,0,_=>by simpa using aI.nil
 |_,_,_+1,.nil=>by simpa using aI.nil
 |_,_,n+1,.cons h r=>by simpa using aI.cons h (aI.take n r)
theorem aI.drop{H:Hp}:∀{vs:List V} {ds:List Dat} (n:Nat),aI H vs ds->aI H (vs.drop n) (ds.drop n)
 |_,_,0,r=>by simpa using r
 |_,_,_+1,.nil=>by simpa using aI.nil
 |_,_,n+1,.cons _ r=>by simpa using aI.drop n r
theorem aI.set{H:Hp}(h:Rep H v d):∀{vs:List V} {ds:List Dat} (i:Nat),aI H vs ds->aI H (vs.set i v) (ds.set i d)
 |_,_,_,.nil=>.nil
 |_,_,0,.cons _ r=>.cons h r
 |_,_,i+1,.cons q r=>.cons q (aI.set h i r)
theorem aI.rep{H:Hp}{vs:List V}{ds:List Dat}(r:aI H vs ds):∀k:Nat,aI H (gc k vs).flatten (gc k ds).flatten
 |0=>by simpa using aI.nil
 |k+1=>by rw[Kn,Kn,KH,KH];exact aI.append r (aI.rep r k)
def Own(H0 H:Hp)(a:Addr):Dat->Prop
 |.lst ds=>∃xs,H a=some (.lst xs)/\aI H0 xs ds
 |.dct ks ds=>∃kvs:List (Key×V),H a=some (.dK kvs)/\kvs.map (·.1)=ks.map K2/\aI H0 (kvs.map (·.2)) ds
 |.dcp ks ds=>∃x:List (List Key×V)×List Addr,H a=some (.dT x.1 x.2)/\wg H0 x ks/\aI H0 (x.1.map (·.2)) ds
 |_=>False
theorem Own.some(h:Own H0 H a d):∃o,H a=some o:=by
 cases d with
 |lst ds=>obtain⟨xs,e,_⟩:=h;exact⟨_,e⟩
 |dct ks ds=>obtain⟨xs,e,_⟩:=h;exact⟨_,e⟩
 |dcp ks ds=>obtain⟨xs,e,_⟩:=h;exact⟨_,e⟩
 |_=>exact J7 h
theorem Own.mono{H0 H H0' H':Hp}(h:Own H0 H a d)(s:au H0 H0')(e:H' a=H a):Own H0' H' a d:=by
 cases d with
 |lst ds=>obtain⟨xs,q,r⟩:=h;exact⟨xs,by rw[e];exact q,r.mono s⟩
 |dct ks ds=>obtain⟨xs,q,k,r⟩:=h;exact⟨xs,by rw[e];exact q,k,r.mono s⟩
 |dcp ks ds=>obtain⟨xs,q,k,r⟩:=h;exact⟨xs,by rw[e];exact q,k.mono s,r.mono s⟩
 |_=>exact J7 h
def iP(H0 H:Hp)(v:V)(d:Dat):Prop:=Rep H0 v d\/∃a,v=V.ref a/\Own H0 H a d
inductive oS(H0 H:Hp):List V->List Dat->Prop
 |nil:oS H0 H [] []
 |cons {v:V} {d:Dat} {vs:List V} {ds:List Dat}:iP H0 H v d->oS H0 H vs ds->oS H0 H (v::vs) (d::ds)
noncomputable def shr(H0 H:Hp)(a:Addr):Hp:=fun b=>if b=a then H a else H0 b
theorem cV:shr H0 H a a=H a:=by unfold shr;rw[if_pos rfl]
theorem f_{a b:Addr}(h:b≠a):shr H0 H a b=H0 b:=by unfold shr;rw[if_neg h]
theorem ez(h:H0 a=none):au H0 (shr H0 H a):=fun b o e=>by
 by_cases q:b=a
 ·subst q;rw[h]at e;cases e
 ·rw[f_ q];exact e
theorem sQ(s:au H0 H):au (shr H0 H a) H:=fun b o e=>by
 by_cases q:b=a
 ·subst q;rw[cV]at e;exact e
 ·rw[f_ q]at e;exact s _ _ e
theorem Own.rep(h:Own H0 H a d)(n:H0 a=none):Rep (shr H0 H a) (V.ref a) d:=by
 cases d with
 |lst ds=>obtain⟨xs,q,r⟩:=h;exact .lst (.inl (by rw[cV];exact q)) (r.mono (ez n))
 |dct ks ds=>obtain⟨xs,q,k,r⟩:=h;exact .dct (by rw[cV];exact q) k (r.mono (ez n))
 |dcp ks ds=>obtain⟨xs,q,k,r⟩:=h;exact .dcp (by rw[cV];exact q) (k.mono (ez n)) (r.mono (ez n))
 |_=>exact J7 h
def aq(σ:St)(ρ:Dm.Env)(a:Addr):Prop:=∃(i:Nat) (d:Dat),ρ[i]?=some (Dm.Cell.ow d)/\σ[i]?=some (some (V.ref a))
noncomputable abbrev Def(_:Dm.Env)(_:Nat):Prop:=True
structure aC(H0 H:Hp)(σ:St)(ρ:Dm.Env):Prop where
 same:au H0 H
 len:σ.length=ρ.length
 sh:∀(i:Nat) (d:Dat),ρ[i]?=some (Dm.Cell.sh d)->∃v,σ[i]?=some (some v)/\Rep H0 v d
 ow:∀(i:Nat) (d:Dat),ρ[i]?=some (Dm.Cell.ow d)->∃a,σ[i]?=some (some (V.ref a))/\H0 a=none/\Own H0 H a d
 dis:∀(i j:Nat) (d e:Dat) (a:Addr),ρ[i]?=some (Dm.Cell.ow d)->ρ[j]?=some (Dm.Cell.ow e)->σ[i]?=some (some (V.ref a))->σ[j]?=some (some (V.ref a))->i=j
structure Stp(O:Addr->Prop)(H0 H H0' H':Hp):Prop where
 s0:au H0 H0'
 s1:∀a o,H a=some o->¬O a->H' a=some o
 s2:∀a o,H0' a=some o->H a=none\/H0 a=some o\/O a
 s3:∀a o,H a=some o->∃o',H' a=some o'
theorem Stp.refl(O:Addr->Prop)(H0 H:Hp):Stp O H0 H H0 H:=⟨au.refl _,fun _ _ e _=>e,fun _ _ e=>.inr (.inl e),fun _ o e=>⟨o,e⟩⟩
theorem Stp.gone{O:Addr->Prop}{H0 H H0' H':Hp}(t:Stp O H0 H H0' H')(h:H' a=none):H a=none:=by
 cases q:H a with
 |none=>rfl
 |some o=>obtain⟨o',e⟩:=t.s3 a o q;rw[h]at e;cases e
theorem Stp.trans{O1 O2:Addr->Prop}{H0 H H1 H' H2 H'':Hp}(t:Stp O1 H0 H H1 H')(u:Stp O2 H1 H' H2 H'')(k:∀a,O2 a->O1 a\/H a=none):Stp O1 H0 H H2 H'' where
 s0:=t.s0.trans u.s0
 s1:=fun a o e n=>u.s1 a o (t.s1 a o e n) fun z=>(k a z).elim n fun q=>by rw[q]at e;cases e
 s2:=fun a o e=>by
  rcases u.s2 a o e with q | q | q
  ·exact .inl (t.gone q)
  ·exact t.s2 a o q
  ·rcases k a q with z | z
   ·exact .inr (.inr z)
   ·exact .inl z
 s3:=fun a o e=>by obtain⟨o',e'⟩:=t.s3 a o e;exact u.s3 a o' e'
theorem Stp.wide{O O':Addr->Prop}{H0 H H0' H':Hp}(t:Stp O H0 H H0' H')(k:∀a,O a->O' a):Stp O' H0 H H0' H':=
 ⟨t.s0,fun a o e n=>t.s1 a o e fun z=>n (k a z),fun a o e=>(t.s2 a o e).imp id (Or.imp id (k a)),t.s3⟩
structure aP(H0 H H0' H':Hp):Prop where
 s0:au H0 H0'
 s1:au H H'
 s2:∀a o,H0' a=some o->H a=none\/H0 a=some o
 s3:au H0' H'
theorem aP.refl(s:au H0 H):aP H0 H H0 H:=⟨au.refl _,au.refl _,fun _ _ e=>.inr e,s⟩
theorem aP.stp{H0 H H0' H':Hp}(g:aP H0 H H0' H')(O:Addr->Prop):Stp O H0 H H0' H':=
 ⟨g.s0,fun a o e _=>g.s1 a o e,fun a o e=>(g.s2 a o e).imp id .inl,fun a o e=>⟨o,g.s1 a o e⟩⟩
theorem aP.zO(s:au H0 H)(n:H p=none):aP H0 H (upd H0 p o) (upd H p o) where
 s0:=fun b u e=>by rw[aK (aM e (s.free n))];exact e
 s1:=fun b u e=>by rw[aK (aM e n)];exact e
 s2:=fun b u e=>by
  by_cases q:b=p
  ·subst q;exact .inl n
  ·rw[aK q]at e;exact .inr e
 s3:=fun b u e=>by
  by_cases q:b=p
  ·subst q;rw[aV]at e ⊢;exact e
  ·rw[aK q]at e ⊢;exact s _ _ e
theorem aP.l6(s:au H0 H)(n:H p=none):aP H0 H H0 (upd H p o) where
 s0:=au.refl _
 s1:=fun b u e=>by rw[aK (aM e n)];exact e
 s2:=fun b u e=>.inr e
 s3:=fun b u e=>by rw[aK (aM (s _ _ e) n)];exact s _ _ e
def fQ(Hs H0 H:Hp)(σ:St)(ρ:Dm.Env)(v:V):Dm.Val->Prop
 |.val d=>Rep H0 v d
 |.slot i=>σ[i]?=some (some v)/\Def ρ i
 |.new d=>∃a,v=V.ref a/\Hs a=none/\¬aq σ ρ a/\H0 a=none/\Own H0 H a d
structure ESt(σ:St)(ρ:Dm.Env)(H0 H:Hp)(ρ':Dm.Env)(H0' H':Hp):Prop where
 st:aC H0' H' σ ρ'
 stp:Stp (aq σ ρ) H0 H H0' H'
 own:∀a,aq σ ρ' a->aq σ ρ a
 dfn:∀i,Def ρ i->Def ρ' i
theorem ESt.refl(st:aC H0 H σ ρ):ESt σ ρ H0 H ρ H0 H:=⟨st,Stp.refl _ _ _,fun _ z=>z,fun _ z=>z⟩
theorem ESt.trans{ρ ρ1 ρ2:Dm.Env}{H0 H H1 H' H2 H'':Hp}(t:ESt σ ρ H0 H ρ1 H1 H')(u:ESt σ ρ1 H1 H' ρ2 H2 H''):ESt σ ρ H0 H ρ2 H2 H'':=
 ⟨u.st,t.stp.trans u.stp fun a z=>.inl (t.own a z),fun a z=>t.own a (u.own a z),fun i z=>u.dfn i (t.dfn i z)⟩
theorem aC.grow{H0 H H0' H':Hp}(st:aC H0 H σ ρ)(g:aP H0 H H0' H'):aC H0' H' σ ρ where
 same:=g.s3
 len:=st.len
 sh:=fun i d e=>by obtain⟨v,q,r⟩:=st.sh i d e;exact⟨v,q,r.mono g.s0⟩
 ow:=fun i d e=>by
  obtain⟨a,q,n,w⟩:=st.ow i d e;obtain⟨o,z⟩:=w.some;refine⟨a,q,?_,w.mono g.s0 ((g.s1 a o z).trans z.symm)⟩;cases y:H0' a with
  |none=>rfl
  |some u=>
   rcases g.s2 a u y with k | k
   ·rw[z]at k;cases k
   ·rw[n]at k;cases k
 dis:=st.dis
theorem ESt.grow{H0 H H0' H':Hp}(st:aC H0 H σ ρ)(g:aP H0 H H0' H'):ESt σ ρ H0 H ρ H0' H':=
 ⟨st.grow g,g.stp _,fun _ z=>z,fun _ z=>z⟩
theorem fQ.mono{Hs H0 H H0' H':Hp}{ρ ρ':Dm.Env}(r:fQ Hs H0 H σ ρ v x)(t:ESt σ ρ H0 H ρ' H0' H'):fQ Hs H0' H' σ ρ' v x:=by
 cases x with
 |val d=>exact Rep.mono t.stp.s0 r
 |slot i=>exact⟨r.1,t.dfn i r.2⟩
 |new d=>
  obtain⟨a,e,n,no,n0,w⟩:=r;obtain⟨o,z⟩:=w.some;refine⟨a,e,n,fun y=>no (t.own a y),?_,w.mono t.stp.s0 ((t.stp.s1 a o z no).trans z.symm)⟩;cases y:H0' a with
  |none=>rfl
  |some u=>
   rcases t.stp.s2 a u y with k | k | k
   ·rw[z]at k;cases k
   ·rw[n0]at k;cases k
   ·exact absurd k no
theorem fQ.early{Hs Hs' H0 H:Hp}(r:fQ Hs H0 H σ ρ v x)(k:∀a,Hs a=none->Hs' a=none):fQ Hs' H0 H σ ρ v x:=by
 cases x with
 |val d=>exact r
 |slot i=>exact r
 |new d=>obtain⟨a,e,n,z⟩:=r;exact⟨a,e,k a n,z⟩
theorem fQ.look{Hs H0 H:Hp}(r:fQ Hs H0 H σ ρ v x)(st:aC H0 H σ ρ)(e:Dm.pk ρ x=some d):iP H0 H v d:=by
 cases x with
 |val d'=>cases e;exact .inl r
 |new d'=>cases e;obtain⟨a,e,_,_,_,w⟩:=r;exact .inr ⟨a,e,w⟩
 |slot i=>
  obtain⟨q,_⟩:=r;unfold Dm.pk at e;dsimp only at e;split at e
  ·rename_i d' h;cases e;obtain⟨a,z,_,w⟩:=st.ow i d h;rw[q]at z;cases z;exact .inr ⟨a,rfl,w⟩
  ·rename_i d' h;cases e;obtain⟨u,z,w⟩:=st.sh i d h;rw[q]at z;cases z;exact .inl w
  ·cases e
def qU(Hs H0 H:Hp)(v:V):RV->Prop
 |.val d=>Rep H0 v d
 |.new d=>∃a,v=V.ref a/\Hs a=none/\H0 a=none/\Own H0 H a d
theorem qU.toV{H H0' H' H0:Hp}{z:RV}(r:qU H H0' H' v z)(st:aC H0 H σ ρ):fQ H H0' H' σ ρ v z.ay:=by
 cases z with
 |val d=>exact r
 |new d=>obtain⟨a,e,n,n0,w⟩:=r;refine⟨a,e,n,fun⟨i,d',h1,h2⟩=>?_,n0,w⟩;obtain⟨a',q,_,w'⟩:=st.ow i d' h1;rw[h2]at q;cases q;obtain⟨o,z⟩:=w'.some;rw[n]at z;cases z
def tD(f:FE):TE:=fun σ H Q=>∃H0 ρ x ρ',aC H0 H σ ρ/\f ρ=some (x,ρ')/\∀v H0' H',ESt σ ρ H0 H ρ' H0' H'->fQ H H0' H' σ ρ' v x->Q v H'
def tDT(f:FT):TT:=fun σ H Q=>∃H0 ρ b ρ',aC H0 H σ ρ/\f ρ=some (b,ρ')/\∀H0' H',ESt σ ρ H0 H ρ' H0' H'->Q b H'
inductive dB(Hs H0 H:Hp)(σ:St)(ρ:Dm.Env):List V->List Dm.Val->Prop
 |nil:dB Hs H0 H σ ρ [] []
 |cons {v:V} {x:Dm.Val} {vs:List V} {xs:List Dm.Val}:fQ Hs H0 H σ ρ v x->dB Hs H0 H σ ρ vs xs->dB Hs H0 H σ ρ (v::vs) (x::xs)
def tDA(fs:List FE):TA:=fun σ H Q=>∃H0 ρ xs ρ',aC H0 H σ ρ/\Dm.eAs fs ρ=some (xs,ρ')/\∀vs H0' H',ESt σ ρ H0 H ρ' H0' H'->dB H H0' H' σ ρ' vs xs->Q vs H'
noncomputable abbrev DE(X:Cx)(e:Expr)(f:FE):Prop:=PE X e (tD f)
noncomputable abbrev DT(X:Cx)(e:Expr)(f:FT):Prop:=PT X e (tDT f)
noncomputable abbrev DA(X:Cx)(es:List Expr)(fs:List FE):Prop:=PA X es (tDA fs)
theorem PE.weak{t t':TE}(h:PE X e t)(k:∀σ H Q,t' σ H Q->t σ H Q):PE X e t':=fun cM s σ H Q I q=>h cM s σ H Q I (k σ H Q q)
theorem PT.weak{t t':TT}(h:PT X e t)(k:∀σ H Q,t' σ H Q->t σ H Q):PT X e t':=fun cM s σ H Q I q=>h cM s σ H Q I (k σ H Q q)
theorem PA.weak{es:List Expr}{t t':TA}(h:PA X es t)(k:∀σ H Q,t' σ H Q->t σ H Q):PA X es t':=fun pos cM s σ H Q I q=>h pos cM s σ H Q I (k σ H Q q)
theorem PS.weak{st:Stmt}(h:PS X st t)(k:∀D σ H,t' D σ H->t D σ H):PS X st t':=fun cM s σ H D I q=>h cM s σ H D I (k D σ H q)
theorem PSs.weak{st:List Stmt}(h:PSs X st t)(k:∀D σ H,t' D σ H->t D σ H):PSs X st t':=fun cM s σ H D I q=>h cM s σ H D I (k D σ H q)
theorem cD(s:au H0 H):au H0 (shr H0 H a):=fun b o e=>by
 by_cases q:b=a
 ·subst q;rw[cV];exact s _ _ e
 ·rw[f_ q];exact e
theorem Own.Fx{H0 H0c H:Hp}(h:Own H0 H a d)(b:au H0 H0c)(s:au H0c H):Rep (shr H0c H a) (V.ref a) d:=by
 cases d with
 |lst ds=>obtain⟨xs,q,r⟩:=h;exact .lst (.inl (by rw[cV];exact q)) (r.mono (b.trans (cD s)))
 |dct ks ds=>obtain⟨xs,q,k,r⟩:=h;exact .dct (by rw[cV];exact q) k (r.mono (b.trans (cD s)))
 |dcp ks ds=>obtain⟨xs,q,k,r⟩:=h;exact .dcp (by rw[cV];exact q) (k.mono (b.trans (cD s))) (r.mono (b.trans (cD s)))
 |_=>exact J7 h
theorem fQ.rho{Hs H0 H:Hp}{ρ ρ':Dm.Env}(r:fQ Hs H0 H σ ρ v x)(o:∀a,aq σ ρ' a->aq σ ρ a)(d:∀i,Def ρ i->Def ρ' i):fQ Hs H0 H σ ρ' v x:=by
 cases x with
 |val d=>exact r
 |slot i=>exact⟨r.1,d i r.2⟩
 |new d=>obtain⟨a,e,n,no,z⟩:=r;exact⟨a,e,n,fun y=>no (o a y),z⟩
theorem dB.rho{Hs H0 H:Hp}{ρ ρ':Dm.Env}(o:∀a,aq σ ρ' a->aq σ ρ a)(d:∀i,Def ρ i->Def ρ' i):∀{vs:List V} {xs:List Dm.Val},dB Hs H0 H σ ρ vs xs->dB Hs H0 H σ ρ' vs xs
 |_,_,.nil=>.nil
 |_,_,.cons h r=>.cons (h.rho o d) (dB.rho o d r)
theorem dB.early{Hs Hs' H0 H:Hp}(k:∀a,Hs a=none->Hs' a=none):∀{vs:List V} {xs:List Dm.Val},dB Hs H0 H σ ρ vs xs->dB Hs' H0 H σ ρ vs xs
 |_,_,.nil=>.nil
 |_,_,.cons h r=>.cons (h.early k) (dB.early k r)
theorem bg{i j:Nat}{c d:Dm.Cell}(h:(ρ.set i c)[j]?=some d):(j=i/\d=c)\/(j≠i/\ρ[j]?=some d):=by
 by_cases e:j=i
 ·subst e;by_cases l:j<ρ.length
  ·rw[J3 l]at h;exact .inl ⟨rfl,(Option.some.inj h).symm⟩
  ·rw[Ls (by simpa using Lx.mp l)]at h;cases h
 ·rw[Jz (Kl e)]at h;exact .inr ⟨e,h⟩
theorem qV{i:Nat}(st:aC H0 H σ ρ)(e:ρ[i]?=some (.ow d))(q:σ[i]?=some (some (V.ref a))) :
  aC (shr H0 H a) H σ (ρ.set i (.sh d))/\(∀b,aq σ (ρ.set i (.sh d)) b->aq σ ρ b)/\∀j,Def ρ j->Def (ρ.set i (.sh d)) j:=by
 obtain⟨a',q',n,w⟩:=st.ow i d e;rw[q]at q';cases q';have hil:i<ρ.length:=(JH.mp e).1;refine⟨⟨sQ st.same,by rw[Kc];exact st.len,fun j d' h=>?_,fun j d' h=>?_,fun j k d1 d2 b h1 h2 h3 h4=>?_⟩,fun b ⟨j,d',h1,h2⟩=>?_,fun j h=>?_⟩
 ·rcases bg h with⟨rfl,z⟩ | ⟨_,h⟩
  ·cases z;exact⟨_,q,w.rep n⟩
  ·obtain⟨v,z,r⟩:=st.sh j d' h;exact⟨v,z,r.mono (ez n)⟩
 ·rcases bg h with⟨_,z⟩ | ⟨hj,h⟩
  ·cases z
  ·obtain⟨b,z,n',w'⟩:=st.ow j d' h;have nb:b≠a:=fun y=>hj (st.dis j i d' d a h e (y▸z) q);exact⟨b,z,by rw[f_ nb];exact n',w'.mono (ez n) rfl⟩
 ·rcases bg h1 with⟨_,z⟩ | ⟨_,h1⟩
  ·cases z
  ·rcases bg h2 with⟨_,z⟩ | ⟨_,h2⟩
   ·cases z
   ·exact st.dis j k d1 d2 b h1 h2 h3 h4
 ·rcases bg h1 with⟨_,z⟩ | ⟨_,h1⟩
  ·cases z
  ·exact⟨j,d',h1,h2⟩
 ·trivial
theorem uR(st:aC H0 H σ ρ)(no:¬aq σ ρ a):aC (shr H0 H a) H σ ρ where
 same:=sQ st.same
 len:=st.len
 sh:=fun j d h=>by obtain⟨v,z,r⟩:=st.sh j d h;exact⟨v,z,r.mono (cD st.same)⟩
 ow:=fun j d h=>by obtain⟨b,z,n',w'⟩:=st.ow j d h;have nb:b≠a:=fun y=>no ⟨j,d,h,y▸z⟩;exact⟨b,z,by rw[f_ nb];exact n',w'.mono (cD st.same) rfl⟩
 dis:=st.dis
theorem take1{Hs H0s H0 H0c H:Hp}{ρs ρ ρ':Dm.Env}(t:ESt σ ρs H0s Hs ρ H0c H)(b:au H0 H0c)(r:fQ Hs H0 H σ ρ v x)(e:Dm.tk ρ x=some (d,ρ')) :
  ∃qW,ESt σ ρs H0s Hs ρ' qW H/\au H0c qW/\Rep qW v d/\(∀a,aq σ ρ' a->aq σ ρ a)/\∀i,Def ρ i->Def ρ' i:=by
 cases x with
 |val d'=>cases e;exact⟨H0c,t,au.refl _,Rep.mono b r,fun _ z=>z,fun _ z=>z⟩
 |new d'=>
  cases e;obtain⟨a,e,n,no,n0,w⟩:=r;subst e;have ss:=cD (a:=a) t.st.same;refine⟨shr H0c H a,⟨uR t.st no,⟨t.stp.s0.trans ss,t.stp.s1,fun c o q=>?_,t.stp.s3⟩,t.own,t.dfn⟩,ss,w.Fx b t.st.same,fun _ z=>z,fun _ z=>z⟩;by_cases y:c=a
  ·subst y;exact .inl n
  ·rw[f_ y]at q;exact t.stp.s2 c o q
 |slot i=>
  obtain⟨q,_⟩:=r;unfold Dm.tk at e;dsimp only at e;split at e
  ·rename_i d' h;cases e;obtain⟨a,z,n,w⟩:=t.st.ow i _ h;rw[q]at z;cases z;obtain⟨s1,s2,s3⟩:=qV t.st h q;have ss:=cD (a:=a) t.st.same;refine⟨shr H0c H a,⟨s1,⟨t.stp.s0.trans ss,t.stp.s1,fun c o q'=>?_,t.stp.s3⟩,fun b z=>t.own b (s2 b z),fun j z=>s3 j (t.dfn j z)⟩,ss,w.Fx (au.refl _) t.st.same,s2,s3⟩;by_cases y:c=a
   ·subst y;exact .inr (.inr (t.own c ⟨i,_,h,q⟩))
   ·rw[f_ y]at q';exact t.stp.s2 c o q'
  ·rename_i d' h;cases e;obtain⟨u,z,w⟩:=t.st.sh i _ h;rw[q]at z;cases z;exact⟨H0c,t,au.refl _,w,fun _ z=>z,fun _ z=>z⟩
  ·cases e
theorem takes{Hs H0s H0 H:Hp}{ρs:Dm.Env}:∀{xs:List Dm.Val} {vs:List V} {ρ ρ':Dm.Env} {ds:List Dat} {H0c:Hp},ESt σ ρs H0s Hs ρ H0c H->au H0 H0c->dB Hs H0 H σ ρ vs xs->Dm.tks ρ xs=some (ds,ρ') ->
  ∃qW,ESt σ ρs H0s Hs ρ' qW H/\au H0c qW/\aI qW vs ds
 |[],_,ρ,ρ',ds,H0c,t,b,r,e=>by cases r;cases e;exact⟨H0c,t,au.refl _,.nil⟩
 |x::xs,_,ρ,ρ',ds,H0c,t,b,r,e=>by
  cases r with
  |cons h r=>
   unfold Dm.tks at e;split at e
   ·cases e
   ·rename_i d ρ1 e1;split at e
    ·cases e
    ·rename_i ds' ρ2 e2;cases e;obtain⟨H1,t1,b1,r1,o1,d1⟩:=take1 t b h e1;obtain⟨H2,t2,b2,r2⟩:=takes t1 (b.trans b1) (r.rho o1 d1) e2;exact⟨H2,t2,b1.trans b2,.cons (r1.mono b2) r2⟩
theorem Fy{ρ ρ':Dm.Env}(e:Dm.tk ρ x=some (d,ρ'))(y:Dm.Val):Dm.pk ρ' y=Dm.pk ρ y:=by
 cases x with
 |val d'=>cases e;rfl
 |new d'=>cases e;rfl
 |slot i=>
  unfold Dm.tk at e;dsimp only at e;split at e
  ·rename_i d' h;cases e;cases y with
   |val _=>rfl
   |new _=>rfl
   |slot j=>
    unfold Dm.pk;dsimp only;by_cases z:j=i
    ·subst z;rw[J3 (JH.mp h).1,h]
    ·rw[Jz (Kl z)]
  ·cases e;rfl
  ·cases e
theorem wj(e:Dm.pk ρ x=some d):∃ρ',Dm.tk ρ x=some (d,ρ'):=by
 cases x with
 |val d'=>cases e;exact⟨ρ,rfl⟩
 |new d'=>cases e;exact⟨ρ,rfl⟩
 |slot i=>
  unfold Dm.pk at e;dsimp only at e;unfold Dm.tk;dsimp only;split at e
  ·rename_i d' h;cases e;exact⟨_,rfl⟩
  ·rename_i d' h;cases e;exact⟨_,rfl⟩
  ·cases e
theorem jQ:∀{xs:List Dm.Val} {ρ:Dm.Env} {ds:List Dat},Dm.pks ρ xs=some ds->∃ρ',Dm.tks ρ xs=some (ds,ρ')
 |[],ρ,ds,e=>by cases e;exact⟨ρ,rfl⟩
 |x::xs,ρ,ds,e=>by
  unfold Dm.pks at e;split at e
  ·cases e
  ·rename_i d e1;split at e
   ·cases e
   ·rename_i ds' e2;cases e;obtain⟨ρ1,h1⟩:=wj e1;have key:∀ys:List Dm.Val,Dm.pks ρ1 ys=Dm.pks ρ ys:=fun ys=>by
     induction ys with
     |nil=>rfl
     |cons y ys ih=>unfold Dm.pks;rw[Fy h1 y,ih]
    obtain⟨ρ2,h2⟩:=jQ (xs:=xs) (ρ:=ρ1) (ds:=ds') (by rw[key];exact e2);exact⟨ρ2,by unfold Dm.tks;rw[h1];dsimp only;rw[h2]⟩
theorem looks{Hs H0 H:Hp}(st:aC H0 H σ ρ):∀{xs:List Dm.Val} {vs:List V} {ds:List Dat},dB Hs H0 H σ ρ vs xs->Dm.pks ρ xs=some ds->oS H0 H vs ds
 |[],_,ds,r,e=>by cases r;cases e;exact .nil
 |x::xs,_,ds,r,e=>by
  cases r with
  |cons h r=>
   unfold Dm.pks at e;split at e
   ·cases e
   ·rename_i d e1;split at e
    ·cases e
    ·rename_i ds' e2;cases e;exact .cons (h.look st e1) (looks st r e2)
def OpD(r:R2)(g:Dat->Dat->Option RV):Prop:=∀(H0 H:Hp) (x y:V) (dx dy:Dat) (z:RV) (Q:VK),au H0 H->iP H0 H x dx->iP H0 H y dy->g dx dy=some z ->
 (∀v H0' H',aP H0 H H0' H'->qU H H0' H' v z->Q v H')->r x y H Q
def UnD(r:V->Hp->VK->Prop)(g:Dat->Option RV):Prop:=∀(H0 H:Hp) (x:V) (dx:Dat) (z:RV) (Q:VK),au H0 H->iP H0 H x dx->g dx=some z ->
 (∀v H0' H',aP H0 H H0' H'->qU H H0' H' v z->Q v H')->r x H Q
def CallD(r:List V->Hp->VK->Prop)(g:List Dat->Option RV):Prop:=∀(H0 H:Hp) (vs:List V) (ds:List Dat) (z:RV) (Q:VK),au H0 H->oS H0 H vs ds->g ds=some z ->
 (∀v H0' H',aP H0 H H0' H'->qU H H0' H' v z->Q v H')->r vs H Q
def spD(f:List Dat->Option RV):Sp:=fun vs H Q _=>∃H0 ds z,au H0 H/\aI H0 vs ds/\f ds=some z/\∀v H0' H',aP H0 H H0' H'->qU H H0' H' v z->Q v H'
end
section
variable{σ:St}{H:Hp}{Q:VK}
section
variable{fs:List FE}{d:Dat}{a b:FE}{t u:FT}{v:V}{H0:Hp}
theorem Fz{i:Nat}(h:tD (Dm.eV i) σ H Q):uB i σ H Q:=by
 obtain⟨H0,ρ,x,ρ',st,e,k⟩:=h;unfold Dm.eV at e;split at e
 ·rename_i d h1;cases e;obtain⟨v,q,r⟩:=st.sh i d h1;exact⟨v,q,k v H0 H (.refl st) r⟩
 ·rename_i d h1;cases e;obtain⟨a,q,_⟩:=st.ow i d h1;exact⟨_,q,k _ H0 H (.refl st) ⟨q,trivial⟩⟩
 ·cases e
theorem fK(c:∀H0:Hp,Rep H0 v d)(h:tD (Dm.eC d) σ H Q):tC v σ H Q:=by obtain⟨H0,ρ,x,ρ',st,e,k⟩:=h;cases e;exact k v H0 H (.refl st) (c H0)
theorem wk{r:R2}{g:Dat->Dat->Option RV}{fa fb:FE}(o:OpD r g)(h:tD (Dm.e2 g fa fb) σ H Q):tOp r (tD fa) (tD fb) σ H Q:=by
 obtain⟨H0,ρ,x,ρ',st,e,k⟩:=h;unfold Dm.e2 at e;split at e
 ·cases e
 rename_i x1 ρ1 e1;split at e
 ·cases e
 rename_i y1 ρ2 e2;split at e
 ·cases e
 rename_i dx p1;split at e
 ·cases e
 rename_i dy p2;split at e
 ·cases e
 rename_i z gz;cases e;refine⟨H0,ρ,x1,ρ1,st,e1,fun v H1 Hb t1 r1=>⟨H1,ρ1,y1,_,t1.st,e2,fun u H2 Hc t2 r2=>?_⟩⟩;refine o H2 Hc v u dx dy z Q t2.st.same ((r1.mono t2).look t2.st p1) (r2.look t2.st p2) gz fun w H3 Hd g3 r3=>?_;exact k w H3 Hd (t1.trans (t2.trans (.grow t2.st g3))) ((r3.toV t2.st).early fun a n=>(t1.trans t2).stp.gone n)
theorem CW{r:V->Hp->VK->Prop}{g:Dat->Option RV}{fa:FE}(o:UnD r g)(h:tD (Dm.e1 g fa) σ H Q):tUn r (tD fa) σ H Q:=by
 obtain⟨H0,ρ,x,ρ',st,e,k⟩:=h;unfold Dm.e1 at e;split at e
 ·cases e
 rename_i x1 ρ1 e1;split at e
 ·cases e
 rename_i dx p1;split at e
 ·cases e
 rename_i z gz;cases e;refine⟨H0,ρ,x1,_,st,e1,fun v H1 Hb t1 r1=>?_⟩;refine o H1 Hb v dx z Q t1.st.same (r1.look t1.st p1) gz fun w H3 Hd g3 r3=>?_;exact k w H3 Hd (t1.trans (.grow t1.st g3)) ((r3.toV t1.st).early fun a n=>t1.stp.gone n)
theorem FA{Q:List V->Hp->Prop}(h:tDA [] σ H Q):zH σ H Q:=by obtain⟨H0,ρ,xs,ρ',st,e,k⟩:=h;cases e;exact k [] H0 H (.refl st) .nil
theorem CY{f:FE}{Q:List V->Hp->Prop}(h:tDA (f::fs) σ H Q):oK (tD f) (tDA fs) σ H Q:=by
 obtain⟨H0,ρ,xs,ρ',st,e,k⟩:=h;unfold Dm.eAs at e;split at e
 ·cases e
 rename_i x1 ρ1 e1;split at e
 ·cases e
 rename_i xs1 ρ2 e2;cases e;refine⟨H0,ρ,x1,ρ1,st,e1,fun v H1 Hb t1 r1=>⟨H1,ρ1,xs1,_,t1.st,e2,fun vs H2 Hc t2 r2=>?_⟩⟩;exact k (v::vs) H2 Hc (t1.trans t2) (.cons (r1.mono t2) (r2.early fun a n=>t1.stp.gone n))
theorem CZ{r:List V->Hp->VK->Prop}{g:List Dat->Option RV}(o:CallD r g)(h:tD (Dm.eB g fs) σ H Q):tCB r (tDA fs) σ H Q:=by
 obtain⟨H0,ρ,x,ρ',st,e,k⟩:=h;unfold Dm.eB at e;split at e
 ·cases e
 rename_i xs ρ1 e1;split at e
 ·cases e
 rename_i ds p1;split at e
 ·cases e
 rename_i z gz;cases e;refine⟨H0,ρ,xs,_,st,e1,fun vs H1 Hb t1 r1=>?_⟩;refine o H1 Hb vs ds z Q t1.st.same (looks t1.st r1 p1) gz fun w H3 Hd g3 r3=>?_;exact k w H3 Hd (t1.trans (.grow t1.st g3)) ((r3.toV t1.st).early fun a n=>t1.stp.gone n)
theorem cu{n:Nat}(h:n<=Dm.SZ):n<=sizeLine:=JU h (by decide)
theorem FD(h:tD (Dm.a_ fs) σ H Q):CK (tDA fs) σ H Q:=by
 obtain⟨H0,ρ,x,ρ',st,e,k⟩:=h;unfold Dm.a_ at e;split at e
 ·cases e
 rename_i xs ρ1 e1;split at e
 ·cases e
 rename_i ds ρ2 e2;split at e
 ·rename_i hz;cases e;refine⟨H0,ρ,xs,ρ1,st,e1,fun vs H1 Hb t1 r1=>?_⟩;obtain⟨H2,t2,b2,r2⟩:=takes t1 (au.refl _) r1 e2;refine⟨by rw[r2.length];exact cu hz,fun p hp=>?_⟩;have g:=aP.zO (o:=HO.tup vs) t2.st.same hp;exact k _ _ _ (t2.trans (.grow t2.st g)) (.tup aV (r2.mono g.s0))
 ·cases e
theorem FF(h:tD (Dm.aW fs) σ H Q):Fi (tDA fs) σ H Q:=by
 obtain⟨H0,ρ,x,ρ',st,e,k⟩:=h;unfold Dm.aW at e;split at e
 ·cases e
 rename_i xs ρ1 e1;split at e
 ·cases e
 rename_i ds ρ2 e2;split at e
 ·rename_i hz;cases e;refine⟨H0,ρ,xs,ρ1,st,e1,fun vs H1 Hb t1 r1=>?_⟩;obtain⟨H2,t2,b2,r2⟩:=takes t1 (au.refl _) r1 e2;refine⟨by rw[r2.length];exact cu hz,fun p hp=>?_⟩;have g:=aP.l6 (o:=HO.lst vs) t2.st.same hp;refine k _ _ _ (t2.trans (.grow t2.st g)) ⟨p,rfl,t2.stp.gone hp,fun⟨i,d,h1,h2⟩=>?_,t2.st.same.free hp,vs,aV,r2⟩;obtain⟨a,q,_,w⟩:=t2.st.ow i d h1;rw[h2]at q;cases q;obtain⟨o,z⟩:=w.some;rw[hp]at z;cases z
 ·cases e
theorem Rep.plain{H0 H1:Hp}(r:Rep H0 v d)(n:Dm.aG d=false):Rep H1 v d:=by
 cases r with
 |non=>exact .non
 |bl b=>exact .bl b
 |int i=>exact .int i
 |str s=>exact .str s
 |tup _ _=>cases n
 |lst _ _=>cases n
 |dct _ _ _=>cases n
 |dcp _ _ _=>cases n
 |exc _=>cases n
 |cU _ _=>cases n
 |fn a=>exact .fn a
theorem Own.box{H0 H:Hp}{a:Addr}(w:Own H0 H a d):Dm.aG d=true:=by
 cases d with
 |lst ds=>rfl
 |dct ks ds=>rfl
 |dcp ks ds=>rfl
 |_=>exact J7 w
theorem C0{f:List Dat->Option RV}{E:XK}(h:tD (Dm.eF f fs) σ H Q):sN (spD f) [] E (tDA fs) σ H Q:=by
 obtain⟨H0,ρ,x,ρ',st,e,k⟩:=h;unfold Dm.eF at e;split at e
 ·cases e
 rename_i xs ρ1 e1;split at e
 ·cases e
 rename_i ds p1;split at e
 ·cases e
 rename_i z fz;refine⟨H0,ρ,xs,ρ1,st,e1,fun vs H1 Hb t1 r1=>?_⟩;dsimp only;rw[Ke];obtain⟨ρ2,e2⟩:=jQ p1;obtain⟨H2,t2,b2,r2⟩:=takes t1 (au.refl _) r1 e2;split at e
 ·rw[e2]at e;cases e;exact⟨H2,ds,z,t2.st.same,r2,fz,fun w H3 Hd g3 r3=>k w H3 Hd (t2.trans (.grow t2.st g3)) ((r3.toV t2.st).early fun a n=>t2.stp.gone n)⟩
 ·rename_i nb;cases e;refine⟨H2,ds,z,t2.st.same,r2,fz,fun w H3 Hd g3 r3=>?_⟩;have g:aP H1 Hb H1 Hd:=⟨au.refl _,g3.s1,fun a o q=>.inr q,t1.st.same.trans g3.s1⟩
  refine k w H1 Hd (t1.trans (.grow t1.st g)) ?_;cases z with
  |val d=>exact Rep.plain r3 (by simpa [RV.dat] using nb)
  |new d=>obtain⟨a,_,_,_,w⟩:=r3;exact absurd w.box (by simpa [RV.dat] using nb)
theorem Ij{t:FT}(h:tD (Dm.eIf t a b) σ H Q):tIf (tDT t) (tD a) (tD b) σ H Q:=by
 obtain⟨H0,ρ,x,ρ',st,e,k⟩:=h;unfold Dm.eIf at e;split at e
 ·cases e
 ·rename_i ρ1 e1;refine⟨H0,ρ,true,ρ1,st,e1,fun H1 Hb t1=>?_⟩;dsimp only;rw[if_pos rfl];exact⟨H1,ρ1,x,ρ',t1.st,e,fun v H2 Hc t2 r2=>k v H2 Hc (t1.trans t2) (r2.early fun a n=>t1.stp.gone n)⟩
 ·rename_i ρ1 e1;refine⟨H0,ρ,false,ρ1,st,e1,fun H1 Hb t1=>?_⟩;dsimp only;rw[if_neg J1];exact⟨H1,ρ1,x,ρ',t1.st,e,fun v H2 Hc t2 r2=>k v H2 Hc (t1.trans t2) (r2.early fun a n=>t1.stp.gone n)⟩
theorem Rep.nB{c:Bool}(r:Rep H0 v (.bl c)):v=.bl c:=by cases r;rfl
theorem Rep.isInt{c:Int}(r:Rep H0 v (.int c)):v=.int c:=by cases r;rfl
theorem FG(h:tD (Dm.bq a b) σ H Q):Bu (tD a) (tD b) σ H Q:=by
 obtain⟨H0,ρ,x,ρ',st,e,k⟩:=h;unfold Dm.bq at e;split at e
 ·rename_i ρ1 e1;refine⟨H0,ρ,_,_,st,e1,fun v H1 Hb t1 r1=>⟨true,Rep.nB r1,?_⟩⟩
  try dsimp only
  rw[if_pos rfl];exact⟨H1,ρ1,x,ρ',t1.st,e,fun v H2 Hc t2 r2=>k v H2 Hc (t1.trans t2) (r2.early fun a n=>t1.stp.gone n)⟩
 ·rename_i ρ1 e1;cases e;refine⟨H0,ρ,_,_,st,e1,fun v H1 Hb t1 r1=>⟨false,Rep.nB r1,?_⟩⟩
  try dsimp only
  rw[if_neg J1];exact k _ H1 Hb t1 (Rep.bl false)
 ·cases e
theorem FH{a:FE}(h:tD (Dm.bC a) σ H Q):Bv (tD a) σ H Q:=by
 obtain⟨H0,ρ,x,ρ',st,e,k⟩:=h;unfold Dm.bC at e;split at e
 ·rename_i c ρ1 e1;cases e;exact⟨H0,ρ,_,_,st,e1,fun v H1 Hb t1 r1=>⟨c,Rep.nB r1,k _ H1 Hb t1 (Rep.bl (!c))⟩⟩
 ·cases e
variable{Qt:Bool->Hp->Prop}
theorem qX{a:FE}(h:tDT (Dm.tV a) σ H Qt):vU (tD a) σ H Qt:=by
 obtain⟨H0,ρ,x,ρ',st,e,k⟩:=h;unfold Dm.tV at e;split at e
 ·rename_i c ρ1 e1;cases e;exact⟨H0,ρ,_,_,st,e1,fun v H1 Hb t1 r1=>⟨_,Rep.nB r1,k H1 Hb t1⟩⟩
 ·cases e
theorem C1{t:FT}(h:tDT (Dm.aR t) σ H Qt):aR (tDT t) σ H Qt:=by
 obtain⟨H0,ρ,x,ρ',st,e,k⟩:=h;unfold Dm.aR at e;split at e
 ·rename_i c ρ1 e1;cases e;exact⟨H0,ρ,_,_,st,e1,fun H1 Hb t1=>k H1 Hb t1⟩
 ·cases e
theorem C2(h:tDT (Dm.bz t u) σ H Qt):bz (tDT t) (tDT u) σ H Qt:=by
 obtain⟨H0,ρ,x,ρ',st,e,k⟩:=h;unfold Dm.bz at e;split at e
 ·rename_i ρ1 e1;refine⟨H0,ρ,_,ρ1,st,e1,fun H1 Hb t1=>?_⟩;dsimp only;rw[if_pos rfl];exact⟨H1,ρ1,x,ρ',t1.st,e,fun H2 Hc t2=>k H2 Hc (t1.trans t2)⟩
 ·rename_i ρ1 e1;cases e;refine⟨H0,ρ,_,_,st,e1,fun H1 Hb t1=>?_⟩;dsimp only;rw[if_neg J1];exact k H1 Hb t1
 ·cases e
theorem FJ(h:tDT (Dm.tOr t u) σ H Qt):tOr (tDT t) (tDT u) σ H Qt:=by
 obtain⟨H0,ρ,x,ρ',st,e,k⟩:=h;unfold Dm.tOr at e;split at e
 ·rename_i ρ1 e1;cases e;refine⟨H0,ρ,_,_,st,e1,fun H1 Hb t1=>?_⟩;dsimp only;rw[if_pos rfl];exact k H1 Hb t1
 ·rename_i ρ1 e1;refine⟨H0,ρ,_,ρ1,st,e1,fun H1 Hb t1=>?_⟩;dsimp only;rw[if_neg J1];exact⟨H1,ρ1,x,ρ',t1.st,e,fun H2 Hc t2=>k H2 Hc (t1.trans t2)⟩
 ·cases e
end
end
section
variable{ρ:Dm.Env}{H0 H:Hp}{σ:L2.St}
structure SSt(σ:St)(ρ:Dm.Env)(H0 H:Hp)(σ':St)(ρ':Dm.Env)(H0' H':Hp):Prop where
 st:aC H0' H' σ' ρ'
 stp:Stp (aq σ ρ) H0 H H0' H'
 own:∀a,aq σ' ρ' a->aq σ ρ a\/H a=none
 fx:σ'[0]?=σ[0]?
theorem ESt.sst{σ:St}{ρ ρ':Dm.Env}{H0 H H0' H':Hp}(t:ESt σ ρ H0 H ρ' H0' H'):SSt σ ρ H0 H σ ρ' H0' H':=⟨t.st,t.stp,fun a z=>.inl (t.own a z),rfl⟩
theorem SSt.refl{σ:St}(st:aC H0 H σ ρ):SSt σ ρ H0 H σ ρ H0 H:=(ESt.refl st).sst
theorem SSt.trans{σ σ1 σ2:St}{ρ ρ1 ρ2:Dm.Env}{H0 H H1 H' H2 H'':Hp}(t:SSt σ ρ H0 H σ1 ρ1 H1 H')(u:SSt σ1 ρ1 H1 H' σ2 ρ2 H2 H''):SSt σ ρ H0 H σ2 ρ2 H2 H'':=
 ⟨u.st,t.stp.trans u.stp t.own,fun a z=>(u.own a z).elim (t.own a) fun n=>.inr (t.stp.gone n),u.fx.trans t.fx⟩
def FL(σ:St)(ρ:Dm.Env)(H H0' H':Hp)(v:V):RV->Prop
 |.val d=>Rep H0' v d
 |.new d=>∃a,v=V.ref a/\(H a=none\/aq σ ρ a)/\H0' a=none/\Own H0' H' a d
def jR(D:Ends)(σ:St)(ρ:Dm.Env)(H0 H:Hp):Dm.Out->Prop
 |.nx ρ'=>∀σ' H0' H',SSt σ ρ H0 H σ' ρ' H0' H'->D.nx σ' H'
 |.bk ρ'=>∀σ' H0' H',SSt σ ρ H0 H σ' ρ' H0' H'->D.bk σ' H'
 |.ct ρ'=>∀σ' H0' H',SSt σ ρ H0 H σ' ρ' H0' H'->D.ct σ' H'
 |.ret z ρ'=>∀σ' v H0' H',SSt σ ρ H0 H σ' ρ' H0' H'->FL σ ρ H H0' H' v z->(∀d a,z=.new d->v=.ref a->¬aq σ' ρ' a)->D.rt v H'
def tDS(g:FS):TS:=fun D σ H=>∃H0 ρ o,aC H0 H σ ρ/\g ρ=some o/\jR D σ ρ H0 H o
theorem jR.pre{D:Ends}{σ σ1:St}{ρ ρ1:Dm.Env}{H0 H H1 H':Hp}{o:Dm.Out}(t:SSt σ ρ H0 H σ1 ρ1 H1 H')(k:jR D σ ρ H0 H o):jR D σ1 ρ1 H1 H' o:=by
 cases o with
 |nx ρ'=>exact fun σ' H0' H' u=>k σ' H0' H' (t.trans u)
 |bk ρ'=>exact fun σ' H0' H' u=>k σ' H0' H' (t.trans u)
 |ct ρ'=>exact fun σ' H0' H' u=>k σ' H0' H' (t.trans u)
 |ret z ρ'=>
  refine fun σ' v H0' H'' u r no=>k σ' v H0' H'' (t.trans u) ?_ no;cases z with
  |val d=>exact r
  |new d=>
   obtain⟨a,e,n,n0,w⟩:=r;refine⟨a,e,?_,n0,w⟩;rcases n with n | n
   ·exact .inl (t.stp.gone n)
   ·exact(t.own a n).symm
theorem aC.mask(st:aC H0 H σ ρ)(i:Nat):aC H0 H σ (ρ.set i .un) where
 same:=st.same
 len:=by rw[Kc];exact st.len
 sh:=fun j d h=>by
  by_cases q:i=j
  ·subst q;rw[K1]at h;simp only[if_true]at h;split at h<;>cases h
  ·rw[Jz q]at h;exact st.sh j d h
 ow:=fun j d h=>by
  by_cases q:i=j
  ·subst q;rw[K1]at h;simp only[if_true]at h;split at h<;>cases h
  ·rw[Jz q]at h;exact st.ow j d h
 dis:=fun j j' d d' a h1 h2 h3 h4=>by
  by_cases q:i=j
  ·subst q;rw[K1]at h1;simp only[if_true]at h1;split at h1<;>cases h1
  ·by_cases q':i=j'
   ·subst q';rw[K1]at h2;simp only[if_true]at h2;split at h2<;>cases h2
   ·rw[Jz q]at h1;rw[Jz q']at h2;exact st.dis j j' d d' a h1 h2 h3 h4
theorem cN{i:Nat}{a:Addr}(h:aq σ (ρ.set i .un) a):∃(j:Nat) (d:Dat),j≠i/\ρ[j]?=some (Dm.Cell.ow d)/\σ[j]?=some (some (V.ref a)):=by
 obtain⟨j,d,h1,h2⟩:=h;by_cases q:i=j
 ·subst q;rw[K1]at h1;simp only[if_true]at h1;split at h1<;>cases h1
 ·rw[Jz q]at h1;exact⟨j,d,fun z=>q z.symm,h1,h2⟩
end
section
variable{D:Ends}{σ:St}{H:Hp}
theorem Ik(h:tDS Dm.sNx D σ H):sJ D σ H:=by obtain⟨H0,ρ,o,st,e,k⟩:=h;cases e;exact k σ H0 H (.refl st)
theorem FO{s u:FS}(h:tDS (Dm.ai s u) D σ H):oB (tDS s) (tDS u) D σ H:=by
 obtain⟨H0,ρ,o,st,e,k⟩:=h;unfold Dm.ai at e;split at e
 ·rename_i ρ1 e1;exact⟨H0,ρ,.nx ρ1,st,e1,fun σ' H0' H' t=>⟨H0',ρ1,o,t.st,e,k.pre t⟩⟩
 ·rename_i h1;cases o with
  |nx ρ1=>exact absurd e (h1 ρ1)
  |bk ρ1=>exact⟨H0,ρ,_,st,e,k⟩
  |ct ρ1=>exact⟨H0,ρ,_,st,e,k⟩
  |ret z ρ1=>exact⟨H0,ρ,_,st,e,k⟩
theorem C3{f:FE}(h:tDS (Dm.sE f) D σ H):sL (tD f) D σ H:=by
 obtain⟨H0,ρ,o,st,e,k⟩:=h;unfold Dm.sE at e;split at e
 ·cases e
 ·rename_i x ρ1 e1;cases e;exact⟨H0,ρ,x,ρ1,st,e1,fun v H0' H' t r=>k σ H0' H' t.sst⟩
theorem FU{f:FE}(h:tDS (Dm.sR f) D σ H):zz (tD f) D σ H:=by
 obtain⟨H0,ρ,o,st,e,k⟩:=h;unfold Dm.sR at e;split at e
 ·cases e
 ·rename_i d ρ1 e1;cases e;refine⟨H0,ρ,_,ρ1,st,e1,fun v H0' H' t r=>?_⟩;obtain⟨a,e,n,no,n0,w⟩:=r;exact k σ v H0' H' t.sst ⟨a,e,.inl n,n0,w⟩ fun d' a' _ e' z=>by rw[e]at e';cases e';exact no z
 ·rename_i d ρ1 e1;cases e;exact⟨H0,ρ,_,ρ1,st,e1,fun v H0' H' t r=>k σ v H0' H' t.sst r fun d' a' z=>by cases z⟩
 ·rename_i i ρ1 e1;split at e
  ·rename_i d h1;cases e;refine⟨H0,ρ,_,ρ1,st,e1,fun v H0' H' t r=>?_⟩;obtain⟨q,_⟩:=r;obtain⟨a,q',n0,w⟩:=t.st.ow i d h1;rw[q]at q';cases q';refine k σ _ H0' H' ⟨t.st.mask i,t.stp,fun b z=>?_,rfl⟩ ⟨a,rfl,.inr (t.own a ⟨i,d,h1,q⟩),n0,w⟩ fun d' a' _ e' z=>?_
   ·obtain⟨j,d2,_,z1,z2⟩:=cN z;exact .inl (t.own b ⟨j,d2,z1,z2⟩)
   ·cases e';obtain⟨j,d2,hj,z1,z2⟩:=cN z;exact hj (t.st.dis j i d2 d a z1 h1 z2 q)
  ·rename_i d h1;cases e;refine⟨H0,ρ,_,ρ1,st,e1,fun v H0' H' t r=>?_⟩;obtain⟨q,_⟩:=r;obtain⟨u,q',w⟩:=t.st.sh i d h1;rw[q]at q';cases q';exact k σ _ H0' H' t.sst w fun d' a' z=>by cases z
  ·cases e
theorem FW{t:FT}{a b:FS}(h:tDS (Dm.sIf t a b) D σ H):zA (tDT t) (tDS a) (tDS b) D σ H:=by
 obtain⟨H0,ρ,o,st,e,k⟩:=h;unfold Dm.sIf at e;split at e
 ·cases e
 ·rename_i ρ1 e1;refine⟨H0,ρ,true,ρ1,st,e1,fun H1 Hb t1=>?_⟩;dsimp only;rw[if_pos rfl];exact⟨H1,ρ1,o,t1.st,e,k.pre t1.sst⟩
 ·rename_i ρ1 e1;refine⟨H0,ρ,false,ρ1,st,e1,fun H1 Hb t1=>?_⟩;dsimp only;rw[if_neg J1];exact⟨H1,ρ1,o,t1.st,e,k.pre t1.sst⟩
end
section
variable{ρ:Dm.Env}{σ:St}{i:Nat}{H0 H:Hp}{d:Dat}{a:Addr}{b:Addr}{o:HO}{v:V}
theorem e8{i j:Nat}{c d:Option V}(h:(σ.set i c)[j]?=some d):(j=i/\d=c)\/(j≠i/\σ[j]?=some d):=by
 by_cases e:j=i
 ·subst e;by_cases l:j<σ.length
  ·rw[J3 l]at h;exact .inl ⟨rfl,(Option.some.inj h).symm⟩
  ·rw[Ls (by simpa using Lx.mp l)]at h;cases h
 ·rw[Jz (Kl e)]at h;exact .inr ⟨e,h⟩
theorem aC.inσ{c d:Dm.Cell}(st:aC H0 H σ ρ)(h:(ρ.set i c)[i]?=some d):i<σ.length:=by have:=(JH.mp h).1;rw[Kc]at this;rw[st.len];exact this
theorem cH(h:aq (σ.set i (some v)) (ρ.set i (.sh d)) b):aq σ ρ b:=by
 obtain⟨j,d',h1,h2⟩:=h;rcases bg h1 with⟨_,z⟩ | ⟨hj,h1⟩
 ·cases z
 ·rcases e8 h2 with⟨z,_⟩ | ⟨_,h2⟩
  ·exact absurd z hj
  ·exact⟨j,d',h1,h2⟩
theorem aC.nC(st:aC H0 H σ ρ)(r:Rep H0 v d):aC H0 H (σ.set i (some v)) (ρ.set i (.sh d)) where
 same:=st.same
 len:=by rw[Kc,Kc];exact st.len
 sh:=fun j d' h=>by
  rcases bg h with⟨rfl,z⟩ | ⟨hj,h'⟩
  ·cases z;exact⟨v,J3 (st.inσ h),r⟩
  ·obtain⟨u,q,w⟩:=st.sh j d' h';exact⟨u,by rw[Jz (Kl hj)];exact q,w⟩
 ow:=fun j d' h=>by
  rcases bg h with⟨_,z⟩ | ⟨hj,h'⟩
  ·cases z
  ·obtain⟨u,q,w⟩:=st.ow j d' h';exact⟨u,by rw[Jz (Kl hj)];exact q,w⟩
 dis:=fun j k d1 d2 b h1 h2 h3 h4=>by
  rcases bg h1 with⟨_,z⟩ | ⟨hj,h1⟩
  ·cases z
  rcases bg h2 with⟨_,z⟩ | ⟨hk,h2⟩
  ·cases z
  rw[Jz (Kl hj)]at h3;rw[Jz (Kl hk)]at h4;exact st.dis j k d1 d2 b h1 h2 h3 h4
theorem aC.wm(st:aC H0 H σ ρ)(no:¬aq σ ρ a)(n0:H0 a=none)(w:Own H0 H a d):aC H0 H (σ.set i (some (.ref a))) (ρ.set i (.ow d)) where
 same:=st.same
 len:=by rw[Kc,Kc];exact st.len
 sh:=fun j d' h=>by
  rcases bg h with⟨_,z⟩ | ⟨hj,h'⟩
  ·cases z
  ·obtain⟨u,q,w⟩:=st.sh j d' h';exact⟨u,by rw[Jz (Kl hj)];exact q,w⟩
 ow:=fun j d' h=>by
  rcases bg h with⟨rfl,z⟩ | ⟨hj,h'⟩
  ·cases z;exact⟨a,J3 (st.inσ h),n0,w⟩
  ·obtain⟨u,q,w⟩:=st.ow j d' h';exact⟨u,by rw[Jz (Kl hj)];exact q,w⟩
 dis:=fun j k d1 d2 b h1 h2 h3 h4=>by
  rcases bg h1 with⟨e1,z1⟩ | ⟨hj,h1'⟩
  ·rcases bg h2 with⟨e2,z2⟩ | ⟨hk,h2'⟩
   ·rw[e1,e2]
   ·rcases e8 h3 with⟨_,z⟩ | ⟨z,_⟩
    ·cases z;rw[Jz (Kl hk)]at h4;exact absurd ⟨k,d2,h2',h4⟩ no
    ·exact absurd e1 z
  ·rcases bg h2 with⟨e2,z2⟩ | ⟨hk,h2'⟩
   ·rcases e8 h4 with⟨_,z⟩ | ⟨z,_⟩
    ·cases z;rw[Jz (Kl hj)]at h3;exact absurd ⟨j,d1,h1',h3⟩ no
    ·exact absurd e2 z
   ·rw[Jz (Kl hj)]at h3;rw[Jz (Kl hk)]at h4;exact st.dis j k d1 d2 b h1' h2' h3 h4
theorem g_{a b:Addr}(h:aq (σ.set i (some (.ref a))) (ρ.set i (.ow d)) b):b=a\/aq σ ρ b:=by
 obtain⟨j,d',h1,h2⟩:=h;rcases bg h1 with⟨e,_⟩ | ⟨hj,h1⟩
 ·rcases e8 h2 with⟨_,z⟩ | ⟨z,_⟩
  ·cases z;exact .inl rfl
  ·exact absurd e z
 ·rcases e8 h2 with⟨z,_⟩ | ⟨_,h2⟩
  ·exact absurd z hj
  ·exact .inr ⟨j,d',h1,h2⟩
theorem aC.write{d d':Dat}(st:aC H0 H σ ρ)(e:ρ[i]?=some (.ow d))(q:σ[i]?=some (some (V.ref a)))(w':Own H0 (upd H a o) a d') :
  aC H0 (upd H a o) σ (ρ.set i (.ow d')):=by
 obtain⟨a',q',n,w⟩:=st.ow i d e;rw[q]at q';cases q';refine⟨fun b u z=>?_,by rw[Kc];exact st.len,fun j d1 h=>?_,fun j d1 h=>?_,fun j k d1 d2 b h1 h2 h3 h4=>?_⟩
 ·rw[aK (aM z n)];exact st.same _ _ z
 ·rcases bg h with⟨_,z⟩ | ⟨hj,h'⟩
  ·cases z
  ·exact st.sh j d1 h'
 ·rcases bg h with⟨rfl,z⟩ | ⟨hj,h'⟩
  ·cases z;exact⟨a,q,n,w'⟩
  ·obtain⟨b,q1,n1,w1⟩:=st.ow j d1 h';have nb:b≠a:=fun y=>hj (st.dis j i d1 d a h' e (y▸q1) q);exact⟨b,q1,n1,w1.mono (au.refl _) (aK nb)⟩
 ·have f:∀{j:Nat} {d1:Dat},(ρ.set i (.ow d'))[j]?=some (.ow d1)->∃d2,ρ[j]?=some (.ow d2):=fun {j d1} h=>by
   rcases bg h with⟨rfl,_⟩ | ⟨_,h'⟩
   ·exact⟨d,e⟩
   ·exact⟨d1,h'⟩
  obtain⟨x1,y1⟩:=f h1;obtain⟨x2,y2⟩:=f h2;exact st.dis j k x1 x2 b y1 y2 h3 h4
theorem jh{d d':Dat}(e:ρ[i]?=some (.ow d))(h:aq σ (ρ.set i (.ow d')) b):aq σ ρ b:=by
 obtain⟨j,d1,h1,h2⟩:=h;rcases bg h1 with⟨rfl,_⟩ | ⟨_,h'⟩
 ·exact⟨j,d,e,h2⟩
 ·exact⟨j,d1,h',h2⟩
theorem Stp.write(w:aq σ ρ a):Stp (aq σ ρ) H0 H H0 (upd H a o):=
 ⟨au.refl _,fun b u e n=>by rw [aK (show b≠a from fun z=>n (by rw [z];exact w))];exact e,fun b u e=>.inr (.inl e),fun b u e=>by
  by_cases z:b=a
  ·subst z;exact⟨o,aV⟩
  ·exact⟨u,by rw[aK z];exact e⟩⟩
end
section
variable{D:Ends}{σ:St}{H:Hp}
section
variable{f:FE}{is:List Nat}{ρ:Dm.Env}{body:FS}{a:Addr}{i:Nat}{ds:List Dat}{d:Dat}{bd:Dm.FB}{n:Nat}{xs:List V}{vs:List V}{H0:Hp}{k:Nat}{fi:Dm.FI}{t:FT}{g:TG}{o:HO}{Q:VK}{E:XK}
theorem wo(h:tDS (Dm.sA i f) D σ H):ng (tD f) (g7 i) D σ H:=by
 obtain⟨H0,ρ,o,st,e,k⟩:=h;unfold Dm.sA at e;split at e
 ·cases e
 rename_i hi0;split at e
 ·cases e
 ·rename_i d ρ1 e1;cases e;refine⟨H0,ρ,_,ρ1,st,e1,fun v H0' H' t r=>?_⟩;obtain⟨a,e,n,no,n0,w⟩:=r;subst e;refine k _ H0' H' ⟨t.st.wm no n0 w,t.stp,fun b z=>?_,Jz hi0⟩;rcases g_ z with rfl | z
  ·exact .inr n
  ·exact .inl (t.own b z)
 ·rename_i x ρ1 _ e1;split at e
  ·cases e
  ·rename_i d ρ2 e2;cases e;refine⟨H0,ρ,_,ρ1,st,e1,fun v H0' H' t r=>?_⟩;obtain⟨H1,t1,b1,r1,_,_⟩:=take1 t (au.refl _) r e2;exact k _ H1 H' ⟨t1.st.nC r1,t1.stp,fun b z=>.inl (t1.own b (cH z)),Jz hi0⟩
theorem sS{j:Nat}(h:Def ρ j):Def (ρ.set i (.sh d)) j:=trivial
noncomputable def cY:List Nat->TGs
 |[]=>E_
 |i::is=>Bw (g7 i) (cY is)
theorem nD{H0 H:Hp}{Q:St->Hp->Prop}:∀{is:List Nat} {xs:List V} {ds:List Dat} {σ:St} {ρ ρ':Dm.Env},aC H0 H σ ρ->aI H0 xs ds->Dm.sets is ds ρ=some ρ' ->
  (∀σ',aC H0 H σ' ρ'->(∀a,aq σ' ρ' a->aq σ ρ a)->(∀j,j∉is->σ'[j]?=σ[j]?)->(∀j,Def ρ j->Def ρ' j)->σ'[0]?=σ[0]?->Q σ' H)->cY is xs σ H Q
 |[],_,[],σ,ρ,ρ',st,r,e,k=>by cases r;cases e;exact⟨rfl,k σ st (fun _ z=>z) (fun _ _=>rfl) (fun _ z=>z) rfl⟩
 |i::is,_,d::ds,σ,ρ,ρ',st,r,e,k=>by
  cases r with
  |cons h r=>
   unfold Dm.sets at e;split at e
   ·cases e
   rename_i hi0;refine⟨_,_,rfl,?_⟩;refine nD (st.nC h) r e fun σ' st' o' n' d' f'=>k σ' st' (fun a z=>cH (o' a z)) (fun j hj=>?_) (fun j z=>d' j (sS z)) (f'.trans (Jz hi0));rw[n' j fun z=>hj (JK _ z)];exact Jz fun z=>hj (by rw[z];exact JJ)
 |[],_,_::_,_,_,_,_,_,e,_=>by cases e
 |_::_,_,[],_,_,_,_,_,e,_=>by cases e
theorem jS:∀{is:List Nat} {ds:List Dat} {ρ ρ':Dm.Env},Dm.sets is ds ρ=some ρ'->ds.length=is.length
 |[],[],_,_,_=>rfl
 |i::is,_::ds,_,_,e=>by
  unfold Dm.sets at e;split at e
  ·cases e
  ·simp[jS (is:=is) (ds:=ds) e]
 |[],_::_,_,_,e=>by cases e
 |_::_,[],_,_,e=>by cases e
def BD(is:List Nat)(g:TG)(bd:Dm.FB):Prop:=∀(H0 H:Hp) (σ:St) (ρ ρ':Dm.Env) (x:V) (d:Dat) (Q:St->Hp->Prop),aC H0 H σ ρ->Rep H0 x d->bd d ρ=some ρ' ->
 (∀σ',aC H0 H σ' ρ'->(∀a,aq σ' ρ' a->aq σ ρ a)->(∀j,j∉is->σ'[j]?=σ[j]?)->(∀j,Def ρ j->Def ρ' j)->σ'[0]?=σ[0]?->Q σ' H)->g x σ H Q
theorem sV(i:Nat):BD [i] (g7 i) (Dm.bN i):=by
 intro H0 H σ ρ ρ' x d Q st r e k;unfold Dm.bN at e;split at e
 ·cases e
 rename_i hi0;cases e;refine k _ (st.nC r) (fun a z=>cH z) (fun j hj=>?_) (fun j h=>sS h) (Jz hi0);exact Jz (fun z=>hj (by rw[z];exact Kd.mpr rfl))
theorem wu{K:Js}(hn:is.length=n)(h:tDS (Dm.sU is f) D σ H):ng (tD f) (zC K n (cY is)) D σ H:=by
 obtain⟨H0,ρ,o,st,e,k⟩:=h;unfold Dm.sU at e;split at e
 ·cases e
 ·rename_i x ρ1 e1;split at e
  ·rename_i ds ρ2 e2;split at e
   ·cases e
   ·rename_i ρ3 e3;cases e;refine⟨H0,ρ,_,ρ1,st,e1,fun v H0' H' t r=>?_⟩;obtain⟨H1,t1,b1,r1,_,_⟩:=take1 t (au.refl _) r e2;cases r1 with
    |tup q rs=>refine⟨_,_,rfl,SqT.of (t1.st.same _ _ q),by rw[rs.length,jS e3,hn],?_⟩;exact nD t1.st rs e3 fun σ' st' o' _ _ f'=>k σ' H1 H' ⟨st',t1.stp,fun a z=>.inl (t1.own a (o' a z)),f'⟩
  ·cases e
theorem wz{K:Js}(is:List Nat)(hn:is.length=n):BD is (zC K n (cY is)) (Dm.bT is):=by
 intro H0 H σ ρ ρ' x d Q st r e k;unfold Dm.bT at e;split at e
 ·cases r with
  |tup q rs=>exact⟨_,_,rfl,SqT.of (st.same _ _ q),by rw[rs.length,jS e,hn],nD st rs e k⟩
 ·cases e
theorem FY{K:Js}(h:tDS (Dm.bA i f) D σ H):sL (tBM K "list" ny (uB i) (tDA [f])) D σ H:=by
 obtain⟨H0,ρ,o,st,e,k⟩:=h;unfold Dm.bA at e;split at e
 ·rename_i ds0 h0;obtain⟨a0,q0,n0,w0⟩:=st.ow i _ h0;refine⟨_,q0,?_⟩;split at e
  ·cases e
  rename_i x ρ1 e1;split at e
  ·cases e
  rename_i d ρ2 e2;split at e
  ·rename_i ds h2;split at e
   ·rename_i hz;cases e;obtain⟨xs0,y0,_⟩:=w0;refine⟨.inl ⟨rfl,xs0,.inl (.inl y0)⟩,?_⟩;refine⟨H0,ρ,[x],ρ1,st,by unfold Dm.eAs;rw[e1];rfl,fun vs H0' H' t r=>?_⟩;cases r with
    |cons r rr=>
     cases rr;obtain⟨H1,t1,b1,r1,_,_⟩:=take1 t (au.refl _) r e2;obtain⟨a,q,n,w⟩:=t1.st.ow i _ h2;rw[q0]at q;cases q;obtain⟨xs,y,rs⟩:=w;refine⟨a0,xs,_,rfl,rfl,y,by rw[rs.length];exact JS hz (by decide),?_⟩;have ow:aq σ ρ2 a0:=⟨i,_,h2,q0⟩
     refine k σ H1 _ ⟨t1.st.write h2 q0 ⟨_,aV,rs.append (.cons r1 .nil)⟩,t1.stp.trans (Stp.write ow) fun b z=>.inl (t1.own b z),fun b z=>.inl (t1.own b (jh h2 z)),rfl⟩
   ·cases e
  ·cases e
 ·cases e
theorem C4(n:Nat)(i:Int):Dm.ixN n i=L2.ixN n i:=rfl
theorem FZ{j f:FE}(h:tDS (Dm.bB i j f) D σ H):ng (tD f) (aZ (uB i) (tD j) BB) D σ H:=by
 obtain⟨H0,ρ,o,st,e,k⟩:=h;unfold Dm.bB at e;split at e
 ·cases e
 rename_i x ρ1 e1;split at e
 ·cases e
 rename_i d ρ2 e2;split at e
 case h_2=>cases e
 rename_i d0 h2;split at e
 ·rename_i m ρ3 e3;split at e
  ·rename_i ds h3;split at e
   ·cases e
   ·rename_i p e4;cases e;refine⟨H0,ρ,_,ρ1,st,e1,fun v H0' H' t r=>?_⟩;obtain⟨H1,t1,b1,r1,_,_⟩:=take1 t (au.refl _) r e2;obtain⟨a0,q0,_,_⟩:=t1.st.ow i _ h2;refine⟨_,q0,H1,ρ2,_,ρ3,t1.st,e3,fun u H2 Hc t2 r2=>?_⟩;obtain⟨a,q,n,w⟩:=t2.st.ow i _ h3;rw[q0]at q;cases q;obtain⟨xs,y,rs⟩:=w;refine⟨a0,xs,m,p,rfl,Rep.isInt r2,y,by rw[rs.length];exact e4,?_⟩;have ow:aq σ ρ3 a0:=⟨i,_,h3,q0⟩
    have tt:=t1.trans t2;refine k σ H2 _ ⟨t2.st.write h3 q0 ⟨_,aV,rs.set (r1.mono t2.stp.s0) p⟩,tt.stp.trans (Stp.write ow) fun b z=>.inl (tt.own b z),fun b z=>.inl (tt.own b (jh h3 z)),rfl⟩
  ·cases e
 ·cases e
theorem zP(h:tDS (Dm.whD t body n) D σ H):vO (tDT t) (tDS body) D σ H:=by
 refine⟨fun m σ H=>tDS (Dm.whD t body m) D σ H,⟨n,h⟩,?_⟩;rintro m σ H ⟨H0,ρ,o,st,e,k⟩;cases m with
 |zero=>unfold Dm.whD at e;cases e
 |succ m=>
  unfold Dm.whD at e;split at e
  ·cases e
  ·rename_i ρ1 e1;cases e;refine⟨H0,ρ,false,ρ1,st,e1,fun H1 Hb t1=>?_⟩;dsimp only;rw[if_neg J1];exact k σ H1 Hb t1.sst
  ·rename_i ρ1 e1;refine⟨H0,ρ,true,ρ1,st,e1,fun H1 Hb t1=>?_⟩;dsimp only;rw[if_pos rfl];refine⟨fun σ' H'=>tDS (Dm.whD t body m) D σ' H',fun σ' H' q=>⟨m,Nat.lt_succ_self m,q⟩,?_⟩;have k1:=k.pre t1.sst;split at e
   ·rename_i ρ2 e2;exact⟨H1,ρ1,_,t1.st,e2,fun σ' H0' H' t2=>⟨H0',ρ2,o,t2.st,e,k1.pre t2⟩⟩
   ·rename_i ρ2 e2;exact⟨H1,ρ1,_,t1.st,e2,fun σ' H0' H' t2=>⟨H0',ρ2,o,t2.st,e,k1.pre t2⟩⟩
   ·rename_i ρ2 e2;cases e;exact⟨H1,ρ1,_,t1.st,e2,k1⟩
   ·rename_i v ρ2 e2;cases e;exact⟨H1,ρ1,_,t1.st,e2,k1⟩
   ·cases e
def JW(J:It)(H00:Hp)(ys:List Dat):Prop:=∀H0 H,au H00 H0->au H0 H->(∀i,ys.length<=i->J.stop i H) /\
 ∀(i:Nat) (d:Dat),ys[i]?=some d->J.go i H/\∀x H',J.yld i H x H'->∃H0',aP H0 H H0' H'/\Rep H0' x d
def tDI(fi:Dm.FI):TI:=fun σ H R=>∃H0 ρ ys ρ',aC H0 H σ ρ/\fi ρ=some (ys,ρ')/\∀J H0' H',ESt σ ρ H0 H ρ' H0' H'->JW J H0' ys->R J H'
theorem F0(hb:BD is g bd)(h:tDS (Dm.aY fi bd body) D σ H):Fb (tDI fi) g (tDS body) D σ H:=by
 obtain⟨H0,ρ,o,st,e,k⟩:=h;unfold Dm.aY at e;split at e
 ·cases e
 rename_i ys ρ1 e1;refine⟨H0,ρ,ys,ρ1,st,e1,fun J H00 Hb t1 jw=>?_⟩;refine ⟨fun i m σ H=>∃ H0 ρ o,aC H0 H σ ρ∧au H00 H0∧m=ys.length-i∧i≤ys.length∧Dm.cy bd body (ys.drop i) ρ=some o∧jR D σ ρ H0 H o,
  ⟨ys.length,H00,ρ1,o,t1.st,au.refl _,by simp,J8 _,by simpa using e,k.pre t1.sst⟩,?_⟩
 rintro i m σ H ⟨H0,ρ,o,st,s00,rfl,hi,e,k⟩;obtain⟨js,jg⟩:=jw H0 H s00 st.same;by_cases IV:i<ys.length
 ·have hd:ys[i]?=some ys[i]:=by simp[IV]
  obtain⟨g1,g2⟩:=jg i ys[i] hd;rw[KP IV]at e;unfold Dm.cy at e;refine .inr ⟨g1,fun σ' H'=>∃H0 ρ o,aC H0 H' σ' ρ/\au H00 H0/\Dm.cy bd body (ys.drop (i+1)) ρ=some o/\jR D σ' ρ H0 H' o,?_,fun x H' y=>?_⟩
  ·rintro σ' H' ⟨H0',ρ',o',h1,h2,h3,h4⟩;exact⟨ys.length-(i+1),by lia,H0',ρ',o',h1,h2,rfl,IV,h3,h4⟩
  ·obtain⟨H0',gr,rx⟩:=g2 x H' y;split at e
   ·cases e
   ·rename_i ρ2 e2;have t2:=ESt.grow st gr;refine hb H0' H' σ ρ ρ2 x ys[i] _ t2.st rx e2 fun σ2 st2 o2 _ _ f2=>?_;have t3:SSt σ ρ H0 H σ2 ρ2 H0' H':=⟨st2,t2.stp,fun a z=>.inl (o2 a z),f2⟩
    have k3:=k.pre t3;have s3:au H00 H0':=s00.trans gr.s0;split at e
    ·rename_i ρ3 e3;exact⟨H0',ρ2,_,st2,e3,fun σ4 H4 Hd t4=>⟨H4,ρ3,o,t4.st,s3.trans t4.stp.s0,e,k3.pre t4⟩⟩
    ·rename_i ρ3 e3;exact⟨H0',ρ2,_,st2,e3,fun σ4 H4 Hd t4=>⟨H4,ρ3,o,t4.st,s3.trans t4.stp.s0,e,k3.pre t4⟩⟩
    ·rename_i ρ3 e3;cases e;exact⟨H0',ρ2,_,st2,e3,k3⟩
    ·rename_i v ρ3 e3;cases e;exact⟨H0',ρ2,_,st2,e3,k3⟩
    ·cases e
 ·have e':i=ys.length:=by lia
  subst e';rw[LY]at e;cases e;exact .inl ⟨js _ (JL _),k σ H0 H (.refl st)⟩
theorem zQ{K:Js}(hq:Rd H0 a (.lst xs))(rs:aI H0 xs ds):JW (Itl K a) H0 ds:=by intro H0' H s0 s1;have q:SqL K H a xs:=.inl (au.rd s1 (au.rd s0 hq));refine⟨fun i hi=>⟨xs,q,by rw[rs.length];exact hi⟩,fun i d e=>?_⟩;obtain⟨v,hv,rv⟩:=rs.get e;refine⟨⟨xs,v,q,hv⟩,fun x H' y=>?_⟩;obtain⟨e1,y⟩:=y;subst e1;have z:=y xs q;rw[hv]at z;cases z;exact⟨H0',aP.refl s1,rv.mono s0⟩
theorem C5{K:Js}(hq:H0 a=some (.tup xs))(rs:aI H0 xs ds):JW (Itt K a) H0 ds:=by intro H0' H s0 s1;have q:SqT K H a xs:=.inl (.inl (s1 _ _ (s0 _ _ hq)));refine⟨fun i hi=>⟨xs,q,by rw[rs.length];exact hi⟩,fun i d e=>?_⟩;obtain⟨v,hv,rv⟩:=rs.get e;refine⟨⟨xs,v,q,hv⟩,fun x H' y=>?_⟩;obtain⟨e1,y⟩:=y;subst e1;have z:=y xs q;rw[hv]at z;cases z;exact⟨H0',aP.refl s1,rv.mono s0⟩
theorem oU{lo:Int}:JW (Itr lo n) H0 (Dm.ups lo n):=by
 intro H0' H s0 s1;have el:(Dm.ups lo n).length=n:=by simp[Dm.ups]
 refine⟨fun i hi=>by rw[el]at hi;exact hi,fun i d e=>?_⟩;have hi:i<n:=by have:=(JH.mp e).1;rw[el]at this;exact this
 have hd:d=.int (lo+i):=by unfold Dm.ups at e;rw[JT,K9 hi]at e;exact(Option.some.inj e).symm
 refine⟨hi,fun x H' y=>?_⟩;obtain⟨rfl,rfl⟩:=y;subst hd;exact⟨H0',aP.refl s1,.int _⟩
variable{R:It->Hp->Prop}
theorem Il{K:Js}(h:tDI (Dm.iL f) σ H R):oG K (tD f) σ H R:=by
 obtain⟨H0,ρ,ys,ρ',st,e,k⟩:=h;unfold Dm.iL at e;split at e
 ·cases e
 rename_i x ρ1 e1;split at e
 ·rename_i ds ρ2 e2;cases e;refine⟨H0,ρ,_,ρ1,st,e1,fun v H0' H' t r=>?_⟩;obtain⟨H1,t1,b1,r1,_,_⟩:=take1 t (au.refl _) r e2;cases r1 with
  |lst q rs=>exact⟨_,rfl,⟨_,.inl (au.rd t1.st.same q)⟩,k _ H1 H' t1 (zQ q rs)⟩
 ·cases e
theorem Im{K:Js}(h:tDI (Dm.iT f) σ H R):vQ K (tD f) σ H R:=by
 obtain⟨H0,ρ,ys,ρ',st,e,k⟩:=h;unfold Dm.iT at e;split at e
 ·cases e
 rename_i x ρ1 e1;split at e
 ·rename_i ds ρ2 e2;cases e;refine⟨H0,ρ,_,ρ1,st,e1,fun v H0' H' t r=>?_⟩;obtain⟨H1,t1,b1,r1,_,_⟩:=take1 t (au.refl _) r e2;cases r1 with
  |tup q rs=>exact⟨_,rfl,⟨_,.inl (.inl (t1.st.same _ _ q))⟩,k _ H1 H' t1 (C5 q rs)⟩
 ·cases e
theorem F1(h:tDI (Dm.iR1 f) σ H R):Bx (tDA [f]) σ H R:=by
 obtain⟨H0,ρ,ys,ρ',st,e,k⟩:=h;unfold Dm.iR1 at e;split at e
 ·rename_i j ρ1 e1;split at e
  ·rename_i hb;cases e;refine⟨H0,ρ,[.val (.int j)],_,st,by unfold Dm.eAs;rw[e1];rfl,fun vs H0' H' t r=>?_⟩;cases r with
   |cons r rr=>cases rr;cases Rep.isInt r;have h1:=hb.1;have h2:=hb.2;unfold Dm.BIG at h1 h2;exact⟨j,rfl,by lia,by lia,k _ H0' H' t oU⟩
  ·cases e
 ·cases e
theorem F2{f g:FE}(h:tDI (Dm.iR2 f g) σ H R):By (tDA [f,g]) σ H R:=by
 obtain⟨H0,ρ,ys,ρ',st,e,k⟩:=h;unfold Dm.iR2 at e;split at e
 ·rename_i i ρ1 e1;split at e
  ·rename_i j ρ2 e2;split at e
   ·rename_i hb;cases e;refine⟨H0,ρ,[.val (.int i),.val (.int j)],_,st,by unfold Dm.eAs;rw[e1];dsimp only;unfold Dm.eAs;rw[e2];rfl,fun vs H0' H' t r=>?_⟩;cases r with
    |cons r rr=>
     cases rr with
     |cons r' rr=>cases rr;cases Rep.isInt r;cases Rep.isInt r';obtain⟨h1,h2,h3,h4⟩:=hb;unfold Dm.BIG at h1 h2 h3 h4;exact⟨i,j,rfl,⟨by lia,by lia,by lia,by lia⟩,k _ H0' H' t oU⟩
   ·cases e
  ·cases e
 ·cases e
def tLC(wi:TI)(own:Nat)(g:TG)(tt:TT)(te:TE):TE:=fun σ H Q=>wi σ H fun J H1=>∀D,H1 D=none->∃W:Nat->Nat->St->Hp->Prop,
 (∃m,W 0 m (σ++gc own none) (upd H1 D (.lst [])))/\∀i m σ' H',W i m σ' H' ->
  (J.stop i H'∧Q (.ref D) H')∨(J.go i H'∧∀ x H2,J.yld i H' x H2→g x σ' H2 fun σ2 H3=>tt σ2 H3 fun b H4=>if b=true
   then te σ2 H4 fun y H5=>∃kM,H5 D=some (.lst kM)/\kM.length<sizeLine/\∃m',m'<m/\W (i+1) m' σ2 (upd H5 D (.lst (kM++[y])))
   else ∃m',m'<m/\W (i+1) m' σ2 H4)
theorem aC.aside{H0 H:Hp}{σ:St}(st:aC H0 H σ ρ)(n0:H0 a=none)(no:¬aq σ ρ a):aC H0 (upd H a o) σ ρ where
 same:=fun b u z=>by rw[aK (aM z n0)];exact st.same _ _ z
 len:=st.len
 sh:=st.sh
 ow:=fun j d h=>by obtain⟨b,q,n,w⟩:=st.ow j d h;have nb:b≠a:=fun y=>no ⟨j,d,h,y▸q⟩;exact⟨b,q,n,w.mono (au.refl _) (aK nb)⟩
 dis:=st.dis
theorem aC.h_{H0 H:Hp}{σ:St}(st:aC H0 H σ ρ)(h:H a=none):¬aq σ ρ a:=fun⟨i,d,h1,h2⟩=>by obtain⟨b,q,n,w⟩:=st.ow i d h1;rw[h2]at q;cases q;obtain⟨o,z⟩:=w.some;rw[h]at z;cases z
theorem ic{α:Type}{l:List α}{r:List α}{x:α}(h:(l++r)[i]?=some x)(n:x∉r):i<l.length/\l[i]?=some x:=by
 by_cases hi:i<l.length
 ·rw[JQ hi]at h;exact⟨hi,h⟩
 ·rw[J5 (Lx.mp hi)]at h;exact absurd (KD h) n
theorem wA:Dm.Cell.sh d∉gc k Dm.Cell.un:=fun h=>by have:=Li h;cases this
theorem ie:Dm.Cell.ow d∉gc k Dm.Cell.un:=fun h=>by have:=Li h;cases this
theorem aC.ext{H0 H:Hp}{σ:St}(st:aC H0 H σ ρ)(k:Nat):aC H0 H (σ++gc k none) (ρ++gc k .un) where
 same:=st.same
 len:=by simp[st.len]
 sh:=fun i d h=>by obtain⟨hi,h⟩:=ic h wA;obtain⟨v,q,r⟩:=st.sh i d h;exact⟨v,by rw[JQ (by rw[st.len];exact hi)];exact q,r⟩
 ow:=fun i d h=>by obtain⟨hi,h⟩:=ic h ie;obtain⟨v,q,r⟩:=st.ow i d h;exact⟨v,by rw[JQ (by rw[st.len];exact hi)];exact q,r⟩
 dis:=fun i j d e a h1 h2 h3 h4=>by obtain⟨hi,h1⟩:=ic h1 ie;obtain⟨hj,h2⟩:=ic h2 ie;rw[JQ (by rw[st.len];exact hi)]at h3;rw[JQ (by rw[st.len];exact hj)]at h4;exact st.dis i j d e a h1 h2 h3 h4
theorem mG{H0 H:Hp}{σ:St}(st:aC H0 H σ ρ)(h:aq (σ++gc k none) (ρ++gc k .un) a):aq σ ρ a:=by obtain⟨i,d,h1,h2⟩:=h;obtain⟨hi,h1⟩:=ic h1 ie;rw[JQ (by rw[st.len];exact hi)]at h2;exact⟨i,d,h1,h2⟩
theorem Stp.aside{O:Addr->Prop}{H0 H H0' H':Hp}{D:Addr}(t:Stp O H0 H H0' H')(hD:H D=none):Stp O H0 H H0' (upd H' D o):=
 ⟨t.s0,fun a u e n=>by rw[aK (aM e hD)];exact t.s1 a u e n,t.s2,fun a u e=>by rw[aK (aM e hD)];exact t.s3 a u e⟩
theorem ESt.fV{σ:St}{ρ ρ':Dm.Env}{H0 H H0' H':Hp}(t:ESt σ ρ H0 H ρ' H0' H'){D:Addr}(h:H D=some o)(n0:H0 D=none)(no:¬aq σ ρ D):H' D=some o/\H0' D=none/\¬aq σ ρ' D:=by
 refine⟨t.stp.s1 D o h no,?_,fun z=>no (t.own D z)⟩;cases q:H0' D with
 |none=>rfl
 |some u=>
  rcases t.stp.s2 D u q with z | z | z
  ·rw[h]at z;cases z
  ·rw[n0]at z;cases z
  ·exact absurd z no
def JWa(J:It)(H00:Hp)(pa:Option (Addr×HO))(ys:List Dat):Prop:=∀H0 H,au H00 H0->au H0 H->(∀q,pa=some q->H q.1=some q.2)->(∀i,ys.length<=i->J.stop i H) /\
 ∀(i:Nat) (d:Dat),ys[i]?=some d->J.go i H/\∀x H',J.yld i H x H'->∃H0',aP H0 H H0' H'/\Rep H0' x d
theorem oV{σ:St}{own:Nat}{t:FT}{el:FE}{Q:VK}{H00 Hb:Hp}{ρ1 ρ2:Dm.Env}{ds ys:List Dat}{J:It}{pa:Option (Addr×HO)}(hb:BD is g bd)(hl:∀i∈is,σ.length<=i)
  (st1:aC H00 Hb σ ρ1) (hp:∀q,pa=some q->Hb q.1=some q.2/\H00 q.1=none/\¬aq σ ρ1 q.1) (jw:JWa J H00 pa ds) (hsz:ds.length<=Dm.SZ) (e2:Dm.b7 bd t el ds (ρ1++gc own .un) []=some (ys,ρ2))
  (k:∀v H0' H',ESt σ ρ1 H00 Hb (ρ2.take ρ1.length) H0' H'->fQ Hb H0' H' σ (ρ2.take ρ1.length) v (.new (.lst ys))->(∀q,pa=some q->H' q.1=some q.2/\H0' q.1=none)->Q v H') (D:Addr) (hD:Hb D=none) :
  ∃W:Nat->Nat->St->Hp->Prop,(∃m,W 0 m (σ++gc own none) (upd Hb D (.lst [])))/\∀i m σ' H',W i m σ' H' ->
  (J.stop i H'∧Q (.ref D) H')∨(J.go i H'∧∀ x H2,J.yld i H' x H2→g x σ' H2 fun σ2 H3=>tDT t σ2 H3 fun b H4=>if b=true
   then tD el σ2 H4 fun y H5=>∃kM,H5 D=some (.lst kM)/\kM.length<sizeLine/\∃m',m'<m/\W (i+1) m' σ2 (upd H5 D (.lst (kM++[y])))
   else ∃m',m'<m/\W (i+1) m' σ2 H4):=by
 have hpD:∀q,pa=some q->q.1≠D:=fun q e z=>by have:=(hp q e).1;rw[z,hD]at this;cases this
 have noD:¬aq σ ρ1 D:=st1.h_ hD;refine ⟨fun i m σ' H'=>∃ (H0c:Hp) (ρc:Dm.Env) (uS:List Dat) (qY:List V),aC H0c H' σ' ρc∧au H00 H0c∧m=ds.length-i∧i≤ds.length∧Dm.b7 bd t el (ds.drop i) ρc uS=some (ys,ρ2) ∧
  H' D=some (.lst qY)/\aI H0c qY uS/\H0c D=none/\uS.length<=i/\Stp (aq σ ρ1) H00 Hb H0c H'/\(∀j,j<σ.length->σ'[j]?=σ[j]?)/\(∀a,aq σ' ρc a->aq σ ρ1 a)/\(∀j,Def ρ1 j->Def ρc j)/\(∀q,pa=some q->H' q.1=some q.2/\H0c q.1=none/\¬aq σ' ρc q.1),
  ⟨ds.length,H00,ρ1++gc own .un,[],[],(st1.aside (st1.same.free hD) noD).ext own,au.refl _,by simp,J8 _,by simpa using e2,aV,.nil,st1.same.free hD,J8 _,(Stp.refl _ _ _).aside hD,
   fun j hj=>JQ hj,fun a z=>mG st1 z,fun j z=>trivial,fun q e=>⟨by rw[aK (hpD q e)];exact(hp q e).1,(hp q e).2.1,fun z=>(hp q e).2.2 (mG st1 z)⟩⟩,?_⟩
 rintro i m σ' H' ⟨H0c,ρc,uS,qY,sc,s00,rfl,hi,ec,hDl,ra,n0,hal,sp,hσ,ho,hdf,hpc⟩;have nOc:¬aq σ' ρc D:=fun z=>noD (ho D z);obtain⟨js,jg⟩:=jw H0c H' s00 sc.same fun q e=>(hpc q e).1;by_cases IV:i<ds.length
 ·have hd:ds[i]?=some ds[i]:=by simp[IV]
  obtain⟨g1,g2⟩:=jg i ds[i] hd;rw[KP IV]at ec;unfold Dm.b7 at ec;refine .inr ⟨g1,fun y H2 yy=>?_⟩;obtain⟨H0',gr,rx⟩:=g2 y H2 yy;split at ec
  ·cases ec
  rename_i ρ3 e3;have t2:=ESt.grow sc gr;obtain⟨hD2,n02,no2⟩:=t2.fV hDl n0 nOc;have hp2:=fun q e=>t2.fV (hpc q e).1 (hpc q e).2.1 (hpc q e).2.2;refine hb H0' H2 σ' ρc ρ3 y ds[i] _ t2.st rx e3 fun σ3 st3 o3 k3 d3 _=>?_;have no3:¬aq σ3 ρ3 D:=fun z=>no2 (o3 D z);have po3:∀q,pa=some q->¬aq σ3 ρ3 q.1:=fun q e z=>(hp2 q e).2.2 (o3 q.1 z);have hσ3:∀j,j<σ.length->σ3[j]?=σ[j]?:=fun j hj=>(k3 j fun z=>Lx.mpr (hl j z) hj).trans (hσ j hj);have ho3:∀a,aq σ3 ρ3 a->aq σ ρ1 a:=fun a z=>ho a (o3 a z);have F3:∀j,Def ρ1 j->Def ρ3 j:=fun j z=>d3 j (hdf j z);have sp3:Stp (aq σ ρ1) H00 Hb H0' H2:=sp.trans t2.stp fun a z=>.inl (ho a z);have ra3:=ra.mono gr.s0;have s3:au H00 H0':=s00.trans gr.s0;split at ec
  ·cases ec
  ·rename_i ρ4 e4;refine⟨H0',ρ3,false,ρ4,st3,e4,fun C6 H'' t4=>?_⟩;dsimp only;rw[if_neg J1];obtain⟨hD4,n04,no4⟩:=t4.fV hD2 n02 no3;have hp4:=fun q e=>t4.fV (hp2 q e).1 (hp2 q e).2.1 (po3 q e);exact⟨ds.length-(i+1),by lia,C6,ρ4,uS,qY,t4.st,s3.trans t4.stp.s0,rfl,IV,ec,hD4,ra3.mono t4.stp.s0,n04,Nat.le_succ_of_le hal,sp3.trans t4.stp fun a z=>.inl (ho3 a z),hσ3,fun a z=>ho3 a (t4.own a z),fun j z=>t4.dfn j (F3 j z),hp4⟩
  ·rename_i ρ4 e4;refine⟨H0',ρ3,true,ρ4,st3,e4,fun C6 H'' t4=>?_⟩;dsimp only;rw[if_pos rfl];obtain⟨hD4,n04,no4⟩:=t4.fV hD2 n02 no3;have hp4:=fun q e=>t4.fV (hp2 q e).1 (hp2 q e).2.1 (po3 q e);split at ec
   ·cases ec
   rename_i x5 ρ5 e5;split at ec
   ·cases ec
   rename_i y6 ρ6 e6;refine⟨C6,ρ4,x5,ρ5,t4.st,e5,fun v H5 Hc t5 r5=>?_⟩;obtain⟨H6,t6,b6,r6,_,_⟩:=take1 t5 (au.refl _) r5 e6;obtain⟨hD6,n06,no6⟩:=t6.fV hD4 n04 no4;have hp6:=fun q e=>t6.fV (hp4 q e).1 (hp4 q e).2.1 (hp4 q e).2.2;refine⟨qY,hD6,?_,ds.length-(i+1),by lia,H6,ρ6,uS++[y6],qY++[v],t6.st.aside n06 no6,(s3.trans t4.stp.s0).trans t6.stp.s0,rfl,IV,ec,aV,?_,n06,?_,?_,hσ3,fun a z=>ho3 a (t4.own a (t6.own a z)),fun j z=>t6.dfn j (t4.dfn j (F3 j z)),fun q e=>⟨by rw[aK (hpD q e)];exact(hp6 q e).1,(hp6 q e).2.1,(hp6 q e).2.2⟩⟩
   ·rw[ra.length];unfold Dm.SZ at hsz;exact Nat.lt_of_le_of_lt (JU hal (JU (LX IV) hsz)) (by decide)
   ·exact((ra3.mono t4.stp.s0).mono t6.stp.s0).append (.cons r6 .nil)
   ·rw[JO,Lr];lia
   ·exact((sp3.trans t4.stp fun a z=>.inl (ho3 a z)).trans t6.stp fun a z=>.inl (ho3 a (t4.own a z))).aside hD
 ·have e':i=ds.length:=by lia
  subst e';rw[LY]at ec;cases ec;refine .inl ⟨js _ (JL _),k _ H0c H' ?_ ?_ fun q e=>⟨(hpc q e).1,(hpc q e).2.1⟩⟩
  ·have AY:σ.length<=ρ2.length:=by
    rw[<- sc.len];refine Lx.mp fun z=>?_;have q:=hσ σ'.length z;rw[Ls (JL _),JX z]at q;cases q
   have tk:∀{j:Nat} {c:Dm.Cell},(ρ2.take ρ1.length)[j]?=some c->j<σ.length/\ρ2[j]?=some c:=fun {j c} h=>by
    have hj:j<ρ1.length:=by
     have:=(JH.mp h).1;rw[KA]at this
     lia
    rw[Lg hj]at h;exact⟨by rw[st1.len];exact hj,h⟩
   have own':∀a,aq σ (ρ2.take ρ1.length) a->aq σ' ρ2 a:=fun a ⟨j,d,h1,h2⟩=>by obtain⟨hj,h1⟩:=tk h1;exact⟨j,d,h1,(hσ j hj).trans h2⟩
   refine⟨⟨sc.same,?_,fun j d h=>?_,fun j d h=>?_,fun j j' d d' a h1 h2 h3 h4=>?_⟩,sp,fun a z=>ho a (own' a z),fun j z=>?_⟩
   ·rw[KA,<- st1.len];lia
   ·obtain⟨hj,h⟩:=tk h;obtain⟨v,q,r⟩:=sc.sh j d h;exact⟨v,(hσ j hj).symm.trans q,r⟩
   ·obtain⟨hj,h⟩:=tk h;obtain⟨v,q,r⟩:=sc.ow j d h;exact⟨v,(hσ j hj).symm.trans q,r⟩
   ·obtain⟨hj,h1⟩:=tk h1;obtain⟨hj',h2⟩:=tk h2;exact sc.dis j j' d d' a h1 h2 ((hσ j hj).trans h3) ((hσ j' hj').trans h4)
   ·trivial
  ·refine⟨D,rfl,hD,fun⟨j,d,h1,h2⟩=>?_,n0,qY,hDl,ra⟩;have hj:j<ρ1.length:=by
    have:=(JH.mp h1).1;rw[KA]at this
    lia
   rw[Lg hj]at h1;exact nOc ⟨j,d,h1,(hσ j (by rw[st1.len];exact hj)).trans h2⟩
theorem qZ{own:Nat}{el:FE}(hb:BD is g bd)(hl:∀i∈is,σ.length<=i)(h:tD (Dm.bS fi own bd t el) σ H Q) :
  tLC (tDI fi) own g (tDT t) (tD el) σ H Q:=by
 obtain⟨H0,ρ,x,ρ',st,e,k⟩:=h;unfold Dm.bS at e;split at e
 ·cases e
 rename_i ds ρ1 e1;split at e
 case isFalse=>cases e
 rename_i hsz;split at e
 ·cases e
 rename_i ys ρ2 e2;cases e;refine⟨H0,ρ,ds,ρ1,st,e1,fun J H00 Hb t1 jw D hD=>oV (pa:=none) hb hl t1.st (fun q e=>by cases e) (fun H0 H s0 s1 _=>jw H0 H s0 s1) hsz e2 (fun v H0' H' t2 r2 _=>k v H0' H' (t1.trans t2) (r2.early fun a n=>t1.stp.gone n)) D hD⟩
theorem iQ{n m:Nat}{H:Hp}(h:spD (Dm.fn n m body) vs H Q E):vs.length=n:=by
 obtain⟨H0,ds,z,s,rs,e,k⟩:=h;unfold Dm.fn at e;split at e
 ·rename_i hl;rw[rs.length];exact hl
 ·cases e
theorem wB{N:List Str}{n m:Nat}(hm:N.length=n+m)(h:spD (Dm.fn n m body) vs H Q E) :
  tDS body { nx:=fun _ H'=>Q .non H',rt:=Q } (start N vs) H:=by
 have hvn:=iQ h;obtain⟨H0,ds,z,s,rs,e,k⟩:=h;have hl:=rs.length;have no:∀a,¬aq (start N vs) (ds.map Dm.Cell.sh++gc m .un) a:=fun a ⟨i,d,h1,_⟩=>by
  by_cases hi:i<ds.length
  ·rw[JQ (by simpa using hi),JT]at h1;cases q:ds[i]? with
   |none=>rw[q]at h1;cases h1
   |some y=>rw[q]at h1;cases h1
  ·rw[J5 (by simpa using hi),Km]at h1;split at h1<;>cases h1
 have st:aC H0 H (start N vs) (ds.map Dm.Cell.sh++gc m .un):=by
  refine⟨s,?_,fun i d h=>?_,fun i d h=>?_,fun i j d e a h1 h2 _ _=>?_⟩
  ·unfold L2.start;simp only[JO,JM,K3]
   lia
  ·have hi:i<ds.length:=by
    by_cases hi:i<ds.length
    ·exact hi
    ·rw[J5 (by simpa using hi),Km]at h;split at h<;>cases h
   rw[JQ (by simpa using hi),JT]at h;cases q:ds[i]? with
   |none=>rw[q]at h;cases h
   |some y=>rw[q]at h;cases h;obtain⟨v,hv,r⟩:=rs.get q;refine⟨v,?_,r⟩;unfold L2.start;rw[JQ (by simpa [hl] using hi),JT,hv];rfl
  ·by_cases hi:i<ds.length
   ·rw[JQ (by simpa using hi),JT]at h;cases q:ds[i]? with
    |none=>rw[q]at h;cases h
    |some y=>rw[q]at h;cases h
   ·rw[J5 (by simpa using hi),Km]at h;split at h<;>cases h
  ·by_cases hi:i<ds.length
   ·rw[JQ (by simpa using hi),JT]at h1;cases q:ds[i]? with
    |none=>rw[q]at h1;cases h1
    |some y=>rw[q]at h1;cases h1
   ·rw[J5 (by simpa using hi),Km]at h1;split at h1<;>cases h1
 have gr:∀{H0' H'},Stp (aq (start N vs) (ds.map Dm.Cell.sh++gc m .un)) H0 H H0' H'->au H0' H'->aP H0 H H0' H':=fun {H0' H'} t ss=>⟨t.s0,fun a o e=>t.s1 a o e (no a),fun a o e=>(t.s2 a o e).imp id fun q=>q.elim id fun z=>absurd z (no a),ss⟩
 unfold Dm.fn at e;rw[if_pos (by rw[<- hl];exact hvn)]at e;split at e
 ·rename_i r ρ' e1;cases e;refine⟨H0,_,_,st,e1,fun σ' v H0' H' t r _=>k v H0' H' (gr t.stp t.st.same) ?_⟩;cases z with
  |val d=>exact r
  |new d=>obtain⟨a,e,n,n0,w⟩:=r;exact⟨a,e,n.elim id fun z=>absurd z (no a),n0,w⟩
 ·rename_i ρ' e1;cases e;exact⟨H0,_,_,st,e1,fun σ' H0' H' t=>k _ H0' H' (gr t.stp t.st.same) .non⟩
 ·cases e
end
end
open PySem PySem.Spec PyProof.Rows L2
noncomputable def bG(X:Cx)(nm:List Str)(scope:Scope)(own:List Str)(cl:List (Str×Addr))(C:Addr)(s:Shared)(H:Hp)(fp:List Addr):Cx where
 prog:=X.prog
 w:=X.w
 K:=X.K
 mg:=X.mg
 base:=X.base
 A:=X.A
 N:=nm++own
 s₀:=s
 H₀:=H
 env:=compEnvC scope cl C X.env
 outer:=X.stack
 stack:=X.stack
 ex:=fp
 fn:=fun _=>false
 calm:=X.calm
 pn:=[]
 xe:=fun _ _=>False
def PTs(X:Cx)(GQ:List Expr)(t:TT):Prop:=
 ∀(cM:List (Addr×Obj)) (s:Shared) (σ:L2.St) (H:Hp) (Q:Bool->Hp->Prop),Inv X cM σ H s->t σ H Q ->
  wpAny (model X.prog X.w) X.A (forIn GQ true fun c r=>if r=true then do let ok <- isTrue c X.env (eval c X.env);pure (Ku ok) else pure (Ku r)) (TP X cM σ Q) X.xe s
def Io:TT:=fun _ H Q=>Q true H
theorem zR{X:Cx}:PTs X [] Io:=fun cM s σ H Q I h=>wpAny_tests_nil ⟨H,I,h⟩
theorem zS{X:Cx}{c:Expr}{t:TT}(h:PT X c t):PTs X [c] t:=fun cM s σ H Q I hq=>wpAny_tests_one (h cM s σ H Q I hq)
theorem dX(env:Env):∀(names:List (Str×NameKind)) (cs:List (Str×Addr)),(∀y∈names,y.2=.free->∃c,env.cells.lookup y.1=some c) ->
  ∃cl,(forIn names cs fun(x:Str×NameKind) (r:List (Str×Addr))=>(if (x.2 == NameKind.free)=true then do let c <- cellOf env x.1;pure (Ku ((x.1,c)::r)) else pure (Ku r):Sem (ForInStep (List (Str×Addr)))))=pure cl /\
   (∀x c,cl.lookup x=some c->env.cells.lookup x=some c\/cs.lookup x=some c)/\(∀y∈names,y.2=.free->∃c,cl.lookup y.1=some c)/\(∀x c,cs.lookup x=some c->∃c',cl.lookup x=some c')
 |[],cs,_=>⟨cs,rfl,fun _ _ h=>.inr h,fun _ h=>(nomatch h),fun _ c h=>⟨c,h⟩⟩
 |(n,k)::r,cs,h=>by
  have hr:∀y∈r,y.2=.free->∃c,env.cells.lookup y.1=some c:=fun y hy=>h y (JK _ hy);by_cases hk:k=.free
  ·subst hk;obtain⟨c,hc⟩:=h (n,.free) JJ rfl;obtain⟨cl,e,h1,h2,h3⟩:=dX env r ((n,c)::cs) hr;refine⟨cl,?_,fun x c' q=>?_,fun y hy hf=>?_,fun x c' q=>?_⟩
   ·rw[Ly];have e1:cellOf env n=pure c:=by unfold cellOf;rw[hc]
    simp only[beq_self_eq_true,if_true,e1,pure_bind];exact e
   ·rcases h1 x c' q with z | z
    ·exact .inl z
    ·rw[Kf]at z;cases hx:x == n with
     |true=>
      rw[hx]at z;have:x=n:=by simpa using hx
      subst this;injection z with z
      subst z;exact .inl hc
     |false=>rw[hx]at z;exact .inr z
   ·rcases JV.mp hy with rfl | hy
    ·exact h3 n c (by rw[Kf,beq_self_eq_true])
    ·exact h2 y hy hf
   ·by_cases hx:x=n
    ·subst hx;exact h3 x c (by rw[Kf,beq_self_eq_true])
    ·have hx':(x == n)=false:=by simpa using hx
     exact h3 x c' (by rw[Kf,hx'];exact q)
  ·have hb:(k == NameKind.free)=false:=by simpa using hk
   obtain⟨cl,e,h1,h2,h3⟩:=dX env r cs hr;refine⟨cl,?_,h1,fun y hy hf=>?_,h3⟩
   ·rw[Ly];simp only[hb,Bool.false_eq_true,if_false,pure_bind];exact e
   ·rcases JV.mp hy with rfl | hy
    ·exact absurd hf hk
    ·exact h2 y hy hf
theorem jT{env:Env}{scope:Scope}(h:∀y∈scope.names,y.2=.free->∃c,env.cells.lookup y.1=some c) :
  ∃cl,closureFor scope env=pure cl/\(∀x c,cl.lookup x=some c->env.cells.lookup x=some c)/\∀y∈scope.names,y.2=.free->∃c,cl.lookup y.1=some c:=by
 obtain⟨cl,e,h1,h2,_⟩:=dX env scope.names [] h;refine⟨cl,?_,fun x c q=>(h1 x c q).elim id fun z=>by simp at z,h2⟩;unfold closureFor;have e':(forIn scope.names ([]:List (Str×Addr)) fun(x:Str×NameKind) (r:List (Str×Addr))=>(if (x.2 == NameKind.free)=true then do let c <- cellOf env x.1;pure (Ku ((x.1,c)::r)) else pure (Ku r):Sem (ForInStep (List (Str×Addr)))))=pure cl:=e
 first
  |(rw[show (forIn scope.names ([]:List (Str×Addr)) _:Sem (List (Str×Addr)))=pure cl from e'];rfl)
  |(simp only[e'];rfl)
theorem nE{prog:Program}{w:World}{A:Around}{R:Result->Shared->Prop}{s:Shared}{GP target iter:Expr}{GQ:List Expr}{scope:Scope}{pos:Pos}{it kM:Value}{env:Env}(I:Nat->Shared->Prop)
  (turn:∀ n s,I n s→wpAny (model prog w) A (pyNext it) (fun r s₁=>match r with
   |none=>R (.ok .next) s₁
   | some v=>wpAny (model prog w) A (letOwnedTupleGo target it v) (fun _ s₁'=>wpAny (model prog w) A (assign target env v) (fun _ s₂=>
     wpAny (model prog w) A (forIn GQ true fun c r=>if r=true then do let ok ← isTrue c env (eval c env);pure (Ku ok) else pure (Ku r)) (fun ok s₃=>
      if ok=true then wpAny (model prog w) A (eval GP env) (fun x s₄=>wpAny (model prog w) A (call (.builtin "list.append") [kM,x]) (fun _ s₅=>∃m,m<n/\I m s₅) (fun _ _=>False) s₄) (fun _ _=>False) s₃
      else ∃m,m<n/\I m s₃) (fun _ _=>False) s₂) (fun _ _=>False) s₁') (fun _ _=>False) s₁) (fun _ _=>False) s)
  (n:Nat) (h:I n s) :
  codeAny (model prog w) A (.compLoop (.ListComp GP [⟨target,iter,GQ,0⟩] scope pos) 0 it kM env) R s:=by
 have no:∀{P:Value->Shared->Prop} (x:Value) (s':Shared),False->P x s':=fun _ _ f=>f.elim;refine codeAny_loop rfl I (fun n s hI=>?_) n h;show wpAny _ A ((compTurn (.ListComp GP [⟨target,iter,GQ,0⟩] scope pos) 0 it kM env).onRaise (fun x=>do noteFrame x env;theTreesLotGoes x)) _ _ s;refine wpAny_noted ?_;rw[compTurn_list];refine wpAny_bind (wpAny_standAt (wpAny_bind (wpAny_mono (turn n s hI) (fun r s₁ h₁=>?_) no)));cases r with
 |none=>exact wpAny_pure h₁
 |some v=>
  refine wpAny_bind (wpAny_mono h₁ (fun _ s₁' h₁'=>?_) no);refine wpAny_bind (wpAny_mono h₁' (fun _ s₂ h₂=>wpAny_bind (wpAny_mono h₂ (fun ok s₃ h₃=>?_) no)) no);cases ok with
  |false=>exact wpAny_pure ⟨rfl,h₃⟩
  |true=>exact wpAny_bind (wpAny_bind (wpAny_mono h₃ (fun x s₄ h₄=>wpAny_bind (wpAny_mono h₄ (fun _ s₅ h₅=>wpAny_pure (wpAny_pure ⟨rfl,h₅⟩)) no)) no))
theorem cS(env:Env):∀(names:List (Str×NameKind)) (x:Str) (k:NameKind),
  (names.map fun(n,k)=>if (k == NameKind.free&&env.scope.kind == .function&&env.kindOf n == some .cell) then (n,Mf) else (n,k)).lookup x=some k ->
  ∃k0,names.lookup x=some k0/\(k=k0\/(k0=.free/\k=.cell))
 |[],x,k,h=>by simp at h
 |(n,k1)::r,x,k,h=>by
  have h:List.lookup x ((if (k1 == NameKind.free&&env.scope.kind == .function&&env.kindOf n == some .cell)=true then (n,Mf) else (n,k1))::r.map fun(n,k)=>if (k == NameKind.free&&env.scope.kind == .function&&env.kindOf n == some .cell) then (n,Mf) else (n,k))=some k:=h;cases hx:x == n with
  |true=>
   by_cases hc:(k1 == NameKind.free&&env.scope.kind == .function&&env.kindOf n == some .cell)=true
   ·rw[if_pos hc,Kf,hx]at h;injection h with h
    have hk:k1=.free:=by simp only[JY,beq_iff_eq]at hc;exact hc.1.1
    exact⟨k1,by rw[Kf,hx],.inr ⟨hk,h.symm⟩⟩
   ·rw[if_neg hc,Kf,hx]at h;injection h with h
    exact⟨k1,by rw[Kf,hx],.inl h.symm⟩
  |false=>
   by_cases hc:(k1 == NameKind.free&&env.scope.kind == .function&&env.kindOf n == some .cell)=true
   ·rw[if_pos hc,Kf,hx]at h;obtain⟨k0,e,z⟩:=cS env r x k h;exact⟨k0,by rw[Kf,hx];exact e,z⟩
   ·rw[if_neg hc,Kf,hx]at h;obtain⟨k0,e,z⟩:=cS env r x k h;exact⟨k0,by rw[Kf,hx];exact e,z⟩
structure dD(X:Cx)(nm:List Str)(scope:Scope):Prop where
 kind:scope.kind=.function
 cell:∀y∈scope.names,y.2≠.cell
 names:∀y∈scope.names,y.2=.local->scope.names.lookup y.1=some .local
 free:∀y∈scope.names,y.2=.free->X.env.kindOf y.1=some .cell\/X.env.kindOf y.1=some .free
 apart:∀x∈nm,scope.names.lookup x≠some .local
 len:nm.length=X.N.length
 mask:∀(i:Nat) (x:Str),nm[i]?=some x->X.N[i]?=some x\/scope.names.lookup x=none
section
variable{X:Cx}{nm:List Str}{GP tg iter:Expr}{GQ:List Expr}{scope:Scope}{pos:Pos}{own:List Str}{wi:TI}{g:TG}{tt:TT}{te:TE}
theorem mH{cM:List (Addr×Obj)}{s2:Shared}{σ:L2.St}{H2:Hp}{cl:List (Str×Addr)}{it:Addr}{fp:List Addr}{tn:Nat->Heap->Prop}{J:It}{Q:VK}{E:Value->Shared->Prop}{RR:Value->Addr->Result->Shared->Prop}
  (hc:X.calm=true) (S:dD X nm scope) (jU:∀x c,cl.lookup x=some c->X.env.cells.lookup x=some c) (uT:∀y∈scope.names,y.2=.free->∃c,cl.lookup y.1=some c)
  (hg:∀cl C s H fp,PG (bG X nm scope own cl C s H fp) tg g) (ht:∀cl C s H fp,PTs (bG X nm scope own cl C s H fp) GQ tt) (he:∀cl C s H fp,PE (bG X nm scope own cl C s H fp) GP te)
  (I2:Inv X cM σ H2 s2) (T:Turn X.prog X.w X.K tg J fp it tn) (st2:tn 0 s2.heap) (f2:∀b∈fp,lZ X cM H2 b)
  (hR:∀ D,H2 D=none→∃ W:Nat→Nat→L2.St→Hp→Prop,
   (∃m,W 0 m (σ++gc own.length none) (upd H2 D (.lst [])))/\∀i m σ' H',W i m σ' H' ->
    (J.stop i H'∧Q (.ref D) H')∨(J.go i H'∧∀ x H2,J.yld i H' x H2→g x σ' H2 fun σ2 H3=>tt σ2 H3 fun b H4=>if b=true
     then te σ2 H4 fun y H5=>∃kM,H5 D=some (.lst kM)/\kM.length<sizeLine/\∃m',m'<m/\W (i+1) m' σ2 (upd H5 D (.lst (kM++[y])))
     else ∃m',m'<m/\W (i+1) m' σ2 H4))
  (Ip:∀D C H6 s6,Inv X cM σ H6 s6->H6 C=none->C≠X.env.locals->X.s₀.heap.objs.size<=C->(∀x c,X.env.cells.lookup x=some c->c≠C)->(∀p∈X.pn++cM,p.1≠C)->(∃m,s6.heap.Ns C m)->Q (.ref D) H6->RR (.ref D) C (.ok .next) s6) :
  wpAny (model X.prog X.w) X.A (newList []) (fun kM s₃=>wpAny (model X.prog X.w) X.A (newFunctionEnv scope X.env.globals cl [] X.env.qual none .none (some X.env)) (fun cenv s₄=>codeAny (model X.prog X.w) X.A (.compStart (.ListComp GP [⟨tg,iter,GQ,0⟩] scope pos) 0 (.ref it) kM { cenv with scope:=relabel scope X.env }) (RR kM cenv.locals) s₄) E s₃) E s2:=by
 have no:∀{P:Value->Shared->Prop} (x:Value) (s':Shared),False->P x s':=fun _ _ f=>f.elim;refine wpAny_newObj_type (wpAny_newFunctionEnv S.cell (by intro y hy;simp at hy) (fun h₁ hns₁ hsb₁=>?_) S.kind);dsimp only at hns₁ hsb₁ ⊢;have I3:Inv X cM σ (upd H2 s2.heap.objs.size (.lst [])) { s2 with heap:=s2.heap.push { cls:=.type "list",dict:=none,data:=.seq ([]:List Value).toArray } }:=I2.CT (t':=s2.toks) (ys:=[]) (its:=[]) .nil (J8 _)
 generalize hG2:s2.heap.push { cls:=.type "list",dict:=none,data:=.seq ([]:List Value).toArray }=G2 at hns₁ hsb₁ I3 ⊢
 have hC:G2.objs.size=s2.heap.objs.size+1:=by rw[<- hG2,Ma]
 have up2:∀b o,s2.heap.get? b=some o->G2.get? b=some o:=fun b o e=>hG2▸JN _ e;have up3:∀b o,G2.get? b=some o->h₁.get? b=some o:=fun b o e=>hsb₁.extBut b o (J9 (JP e)) (JN _ e);have Iq:G2.get? G2.objs.size=none:=Heap.get?_none_of_le (JL _);have fpo:∀b∈fp,∃o,s2.heap.get? b=some o:=fun b hb=>by obtain⟨o,e,_⟩:=T.obj 0 _ st2 b hb;exact⟨o,e⟩
 have fpC:∀b∈fp,b≠G2.objs.size:=fun b hb=>by obtain⟨o,e⟩:=fpo b hb;exact J9 (JP (up2 b o e))
 have H3C:(upd H2 s2.heap.objs.size (.lst [])) G2.objs.size=none:=I3.hok.fresh (JL _);have fpD:∀b∈fp,b≠s2.heap.objs.size:=fun b hb=>by obtain⟨o,e⟩:=fpo b hb;exact J9 (JP e)
 have F4:∀b∈fp,b∉frs X.stack:=fun b hb z=>by
  rcases JV.mp (I3.qH b z) with y | y
  ·exact(f2 b hb).2.1 y
  ·exact(f2 b hb).2.2.1 y
 have ok':(bG X nm scope own cl G2.objs.size { s2 with heap:=G2 } (upd H2 s2.heap.objs.size (.lst [])) fp).Ok:=by
  refine ⟨I3.ok.mod,S.kind,I3.ok.glob,I3.ok.blt,JL _,fun x y c e1 e2=>I3.ok.inj x y c (jU x c e1) (jU y c e2),fun x hx=>?_,fun x c z=>(nomatch z),I3.ok.hd,I3.ok.frames,.inl rfl,
   fun b hb=>⟨fpC b hb,fun x c e=>(f2 b hb).2.2.2.2.1 x c (jU x c e)⟩,fun b o e=>I3.bs b o e,JU I3.ok.bsz I3.sz,fun b o e hb=>?_,fun b hb=>F4 b hb,I3.stack,I3.sF⟩
  ·have hx:(relabel scope X.env).names.lookup x=some .cell\/(relabel scope X.env).names.lookup x=some .free:=hx;have key:∀k,(relabel scope X.env).names.lookup x=some k->k≠.local->k=.cell\/k=.free->∃c,cl.lookup x=some c:=fun k hk _ hkk=>by
    obtain⟨k0,e0,z⟩:=cS X.env scope.names x k hk;have m0:=PySem.mem_of_lookup e0;have f0:k0=.free:=by
     rcases z with z | z
     ·subst z;rcases hkk with q | q
      ·exact absurd q (S.cell _ m0)
      ·exact q
     ·exact z.1
    exact uT (x,k0) m0 f0
   rcases hx with hx | hx
   ·exact key _ hx (by decide) (.inl rfl)
   ·exact key _ hx (by decide) (.inr rfl)
  ·rcases (f2 b hb).2.2.2.1 with z | z
   ·exact I3.ok.vJ b o e z
   ·exact absurd (JS (JP e) (JU I3.ok.bsz z)) (Ko _)
 have stat:∀{H':Hp},(∀b∈fp,H' b=none)->∀b∈fp,lZ (bG X nm scope own cl G2.objs.size { s2 with heap:=G2 } (upd H2 s2.heap.objs.size (.lst [])) fp) [] H' b:=fun hn b hb=>⟨hn b hb,fpC b hb,F4 b hb,.inl hb,fun x c e=>(f2 b hb).2.2.2.2.1 x c (jU x c e),fun p hp=>(nomatch (show p∈([]:List (Addr×Obj)) from hp))⟩
 have I4:Inv (bG X nm scope own cl G2.objs.size { s2 with heap:=G2 } (upd H2 s2.heap.objs.size (.lst [])) fp) [] (σ++gc own.length none) (upd H2 s2.heap.objs.size (.lst [])) { s2 with heap:=h₁,toks:=s2.toks+([]:List (Str×Value)).length }:=by
  refine⟨ok',rfl,I3.bare,Un.kept up3,⟨_,hns₁,fun i x v e1 e2 e3=>?_⟩,fun x c e=>?_,H3C,fun x c e=>I3.fU x c (jU x c e),fun p hp=>(nomatch (show p∈([]:List (Addr×Obj)) from hp)),I3.hok.kept up3,?_⟩
  ·have e1:(nm++own)[i]?=some x:=e1;have hi:i<σ.length:=by
    by_cases hi:i<σ.length
    ·exact hi
    ·rw[J5 (Lx.mp hi),Km]at e2;split at e2<;>cases e2
   rw[JQ hi]at e2;rw[JQ (by rw[S.len,<- I3.len];exact hi)]at e1;have key:∀k,(relabel scope X.env).names.lookup x=some k->k=.local\/k=.cell\/k=.free->scope.names.lookup x=some .free/\(k=.cell\/k=.free):=fun k hk hkk=>by
    obtain⟨k0,e0,z⟩:=cS X.env scope.names x k hk;have m0:=PySem.mem_of_lookup e0;have n1:k0≠.local:=fun y=>S.apart x (KD e1) (y▸e0);have n2:k0≠.cell:=S.cell _ m0;rcases z with z | z
    ·subst z;rcases hkk with q | q | q
     ·exact absurd q n1
     ·exact absurd q n2
     ·subst q;exact⟨e0,.inr rfl⟩
    ·obtain⟨z1,z2⟩:=z;subst z1;subst z2;exact⟨e0,.inl rfl⟩
   have hk:∃k,(relabel scope X.env).names.lookup x=some k/\(k=.cell\/k=.free)/\scope.names.lookup x=some .free:=by
    rcases (show (relabel scope X.env).names.lookup x=some .local\/(relabel scope X.env).names.lookup x=some .cell\/(relabel scope X.env).names.lookup x=some .free from e3) with q | q | q
    ·obtain⟨a,b⟩:=key _ q (.inl rfl);exact⟨_,q,b,a⟩
    ·obtain⟨a,b⟩:=key _ q (.inr (.inl rfl));exact⟨_,q,b,a⟩
    ·obtain⟨a,b⟩:=key _ q (.inr (.inr rfl));exact⟨_,q,b,a⟩
   obtain⟨k,hk1,hk2,hk3⟩:=hk;have m0:=PySem.mem_of_lookup hk3;obtain⟨c,hcc⟩:=uT (x,.free) m0 rfl;obtain⟨m,hn,hl⟩:=I3.loc;have hout:=S.free (x,.free) m0 rfl;have Ir:Vis X.env.scope x:=by
    rcases hout with q | q
    ·exact .inr (.inl q)
    ·exact .inr (.inr q)
   have e1':X.N[i]?=some x:=by
    rcases S.mask i x e1 with z | z
    ·exact z
    ·rw[z]at hk3;cases hk3
   obtain⟨u,ru,lk⟩:=hl i x v e1' e2 Ir;refine⟨u,ru,.inr ⟨?_,c,hcc,?_⟩⟩
   ·rcases hk2 with q | q
    ·subst q;exact .inl hk1
    ·subst q;exact .inr hk1
   ·rcases lk with⟨q,_⟩ | ⟨_,c',e',z⟩
    ·rcases hout with y | y
     ·rw[q]at y;cases y
     ·rw[q]at y;cases y
    ·rw[jU x c hcc]at e';cases e';obtain⟨o,ho,hd⟩:=z;exact⟨o,up3 c o ho,hd⟩
  ·obtain⟨v,o,ho,hd⟩:=I3.cell x c (jU x c e);exact⟨v,o,up3 c o ho,hd⟩
  ·show (σ++gc own.length none).length=(nm++own).length;rw[JO,JO,K3,I3.len,S.len]
 obtain⟨W,⟨m0,w0⟩,turn⟩:=hR s2.heap.objs.size I2.fresh;have st4:tn 0 h₁:=T.keep 0 _ _ st2 fun b hb o e=>up3 b o (up2 b o e);have Iu:∀b∈fp,(upd H2 s2.heap.objs.size (.lst [])) b=none:=fun b hb=>by rw[aK (fpD b hb)];exact(f2 b hb).1
 have loop:∀s₃:Shared,s₃={ s2 with heap:=h₁,toks:=s2.toks+([]:List (Str×Value)).length } ->
   codeAny (model X.prog X.w) X.A (.compLoop (.ListComp GP [⟨tg,iter,GQ,0⟩] scope pos) 0 (.ref it) (.ref s2.heap.objs.size) (compEnvC scope cl G2.objs.size X.env))
    (RR (.ref s2.heap.objs.size) G2.objs.size) s₃:=by
  rintro s₃ rfl;refine nE (fun n s'=>∃i σ' H',Inv (bG X nm scope own cl G2.objs.size { s2 with heap:=G2 } (upd H2 s2.heap.objs.size (.lst [])) fp) [] σ' H' s'/\tn i s'.heap/\(∀b∈fp,H' b=none)/\W i n σ' H') ?_ m0
   ⟨0,_,_,I4,st4,Iu,w0⟩
  rintro n s5 ⟨i,σ5,H5,I5,st5,fr5,w5⟩;rcases turn i n σ5 H5 w5 with⟨stop,q⟩ | ⟨go,step⟩
  ·refine wpAny_mono (T.done (bG X nm scope own cl G2.objs.size { s2 with heap:=G2 } (upd H2 s2.heap.objs.size (.lst [])) fp) rfl rfl rfl hc i [] s5 σ5 H5 (fun _ _=>False) I5 (stat fr5) st5 stop) (fun r s6 hr6=>?_) no;obtain⟨hr,I6⟩:=hr6;subst hr;have I7:Inv X cM σ H5 s6:=I3.E7 (ch:=fp) I6.os I6.base I6.hok I6.bare fun b hb=>⟨(f2 b hb).2.2.2.1,(f2 b hb).2.1,(f2 b hb).2.2.2.2.1,(f2 b hb).2.2.2.2.2⟩;refine Ip _ _ H5 s6 I7 I6.free (KR (show X.env.locals<G2.objs.size from I3.lt)) I3.sz (fun x c e=>?_) (fun p hp=>?_) (let ⟨m,hn,_⟩:=I6.loc;⟨m,hn⟩) q
   ·obtain⟨v,z⟩:=I3.cell x c e;exact J9 z.lt
   ·exact J9 (JP (I3.pin p hp).1)
  ·refine wpAny_mono (T.item (bG X nm scope own cl G2.objs.size { s2 with heap:=G2 } (upd H2 s2.heap.objs.size (.lst [])) fp) rfl rfl rfl hc i [] s5 σ5 H5 (fun _ _=>False) I5 (stat fr5) st5 go) (fun r s6 hr6=>?_) no;obtain⟨u,hr,h6⟩:=hr6;subst hr;refine wpAny_mono h6 (fun _ s7 h7=>?_) no;obtain⟨x,H7,I7,r7,y7,st7,fr7⟩:=h7;have I7':=I7.pinned (stat fr7) (T.obj _ _ st7);have again:∀{s9:Shared} {σ9:L2.St} {H9:Hp} {m':Nat},m'<n->Inv (bG X nm scope own cl G2.objs.size { s2 with heap:=G2 } (upd H2 s2.heap.objs.size (.lst [])) fp) ([]++jP fp s7.heap) σ9 H9 s9->W (i+1) m' σ9 H9 ->
     ∃m,m<n/\∃i σ' H',Inv (bG X nm scope own cl G2.objs.size { s2 with heap:=G2 } (upd H2 s2.heap.objs.size (.lst [])) fp) [] σ' H' s9/\tn i s9.heap/\(∀b∈fp,H' b=none)/\W i m σ' H':=fun {s9 σ9 H9 m'} hm I9 w9=>by
    refine⟨m',hm,i+1,σ9,H9,I9.g8,T.keep _ _ _ st7 fun b hb o e=>(I9.pin (b,o) (J6 _ (J6 _ (eN hb e)))).1,fun b hb=>?_,w9⟩;obtain⟨o,e,d⟩:=T.obj _ _ st7 b hb;exact(I9.pin (b,o) (J6 _ (J6 _ (eN hb e)))).2.1
   refine wpAny_mono (hg cl G2.objs.size _ _ fp _ s7 σ5 H7 x u _ I7' r7 (step x H7 y7)) (fun _ s8 h8=>?_) no;obtain⟨σ8,H8,I8,q8⟩:=h8;refine wpAny_mono (ht cl G2.objs.size _ _ fp _ s8 σ8 H8 _ I8 q8) (fun b s9 h9=>?_) no;obtain⟨H9,I9,q9⟩:=h9;cases b with
   |false=>rw[if_neg J1]at q9 ⊢;obtain⟨m',hm,w9⟩:=q9;exact again hm I9 w9
   |true=>rw[if_pos rfl]at q9 ⊢;refine wpAny_mono (he cl G2.objs.size _ _ fp _ s9 σ8 H9 _ I9 q9) (fun y s10 h10=>?_) no;obtain⟨yv,H10,I10,r10,kM,hacc,AY,m',hm,w10⟩:=h10;refine wpAny_mono (iK (X:=bG X nm scope own cl G2.objs.size { s2 with heap:=G2 } (upd H2 s2.heap.objs.size (.lst [])) fp) _ s10 σ8 H10 (.ref s2.heap.objs.size) [yv] (.ref s2.heap.objs.size) [y] (fun _ H'=>H'=upd H10 s2.heap.objs.size (.lst (kM++[yv]))) I10 rfl (.cons r10 .nil) ⟨_,kM,yv,rfl,rfl,hacc,AY,rfl⟩) (fun _ s11 h11=>?_) no;obtain⟨_,H11,I11,_,e11⟩:=h11;subst e11;exact again hm I11 w10
 exact codeAny_compStart_list (loop _ rfl) (T.self _ 0 _ _ _ st4 (loop _ rfl))
theorem sW(hc:X.calm=true)(S:dD X nm scope)(hi:PI X tg iter wi)
  (hg:∀cl C s H fp,PG (bG X nm scope own cl C s H fp) tg g) (ht:∀cl C s H fp,PTs (bG X nm scope own cl C s H fp) GQ tt) (he:∀cl C s H fp,PE (bG X nm scope own cl C s H fp) GP te)
  (hs:∀x,foldedSetIterable iter X.env x=pure x:=by intro _;rfl):PE X (.ListComp GP [⟨tg,iter,GQ,0⟩] scope pos) (tLC wi own.length g tt te):=by
 intro cM s σ H Q I h;obtain⟨cl,hclos,jU,uT⟩:=jT (env:=X.env) (scope:=scope) fun y hy hf=>I.ok.has y.1 (S.free y hy hf);rw[eval_ListComp];refine wpAny_comprehension_free (use:=none) rfl hs hclos S.kind S.names (thn (hi cM s σ H _ I h) fun v s1 h1=>thn h1 fun itv s2 h2=>?_);obtain⟨it,fp,tn,J,H2,e,I2,T,st2,f2,hR⟩:=h2;subst e;refine mH (Q:=Q) (RR:=fun kM C=>compPost (model X.prog X.w) X.A X.xe none (EP X cM σ Q) kM C) hc S jU uT hg ht he I2 T st2 f2 hR ?_;intro D C H6 s6 I6 hCn hCL hCs hCc hCp hns q;obtain⟨m,hn⟩:=hns;refine⟨m,hn,fun h' hs'=>⟨.ref D,H6,I6.turned (t':=s6.toks) (fun b o hb e=>(hs'.2 b hb).trans e) hCn hCL (.inr hCs) hCc hCp,rfl,q⟩⟩
theorem jj{i:Nat}{y:Str}{py GX:Pos}(hN:X.N.Nodup)(hi':X.N[i]?=some y)(hy:Loc X.env.scope y)(hc:X.calm=true)(S:dD X nm scope)(hi:PI X tg iter wi)
  (hg:∀cl C s H fp,PG (bG X nm scope own cl C s H fp) tg g) (ht:∀cl C s H fp,PTs (bG X nm scope own cl C s H fp) GQ tt) (he:∀cl C s H fp,PE (bG X nm scope own cl C s H fp) GP te)
  (hsw:swapsWith (.ListComp GP [⟨tg,iter,GQ,0⟩] scope pos) (some (.Name y py)) GX.line X.env=pure true:=by rfl)
  (hs:∀x,foldedSetIterable iter X.env x=pure x:=by intro _;rfl) (hf:X.fn y=true\/X.env.scope.names.lookup y=some .local:=by trivial) :
  PS X (.Assign [.Name y py] (.ListComp GP [⟨tg,iter,GQ,0⟩] scope pos) GX) (ng (tLC wi own.length g tt te) (g7 i)):=by
 intro cM s σ H Dn I h;obtain⟨cl,hclos,jU,uT⟩:=jT (env:=X.env) (scope:=scope) fun y hy hf=>I.ok.has y.1 (S.free y hy hf);rw[exec_Assign_Name_used _ _ _ _ hsw];refine wpAny_bind (wpAny_standAt (wpAny_bind ?_));show wpAny _ X.A (do let _ <- comprehension (.ListComp GP [⟨tg,iter,GQ,0⟩] scope pos) scope X.env _ (newList []) false (eval iter X.env) (some (assign (.Name y py) X.env))) _ _ s;refine wpAny_bind (wpAny_mono (wpAny_comprehension_free (use:=some (assign (.Name y py) X.env)) (Q:=fun _ s'=>SP X cM Dn .next s') rfl hs hclos S.kind S.names
  (thn (hi cM s σ H _ I h) fun v s1 h1=>thn h1 fun itv s2 h2=>?_)) (fun _ s' hq=>wpAny_pure (wpAny_pure hq)) fun _ _ e=>e)
 obtain⟨it,fp,tn,J,H2,e,I2,T,st2,f2,hR⟩:=h2;subst e;refine mH (Q:=fun x H1=>g7 i x σ H1 Dn.nx) (RR:=fun kM C=>compPost (model X.prog X.w) X.A X.xe (some (assign (.Name y py) X.env)) (fun _ s'=>SP X cM Dn .next s') kM C) hc S jU uT hg ht he I2 T st2 f2 hR ?_;intro D C H6 s6 I6 hCn hCL hCs hCc hCp hns q;obtain⟨m,hn⟩:=hns;show wpAny _ X.A (assign (.Name y py) X.env (.ref D)) _ _ _;refine wpAny_assign_Name (mj I6 hN hi' hy (v:=.ref D) rfl (fun s7 I7 h7=>?_) hf);obtain⟨a,sb,ha⟩:=h7;have hCa:C≠a:=by
  rcases ha with ha | ha
  ·rw[ha];exact hCL
  ·exact Kl (hCc y a ha)
 refine⟨m,hn.sameBut sb hCa,fun h' hs'=>⟨_,H6,I7.turned (t':=s7.toks) (fun b o hb e=>(hs'.2 b hb).trans e) hCn hCL (.inr hCs) hCc hCp,q⟩⟩
end
mutual
noncomputable def toPy:Dat->PyData
 |.non=>.none
 |.bl b=>.bool b
 |.int i=>.int i
 |.str s=>.str ⟨s.toArray⟩
 |.tup xs=>.tuple (cI xs)
 |.lst xs=>.list (cI xs)
 |.dct _ _=>.dict []
 |.dcp _ _=>.dict []
 |.exc _=>.dict []
 |.cU _ _=>.dict []
 |.fn _=>.dict []
noncomputable def cI:List Dat->List PyData
 |[]=>[]
 |x::xs=>toPy x::cI xs
end
mutual
theorem ig:∀a b:Dat,Kq (toPy a) (toPy b)=Dm.eqD a b
 |.non,b=>by cases b<;>simp[toPy,Kq,Dm.eqD]
 |.bl x,b=>by cases b<;>simp[toPy,Kq,Dm.eqD,Dm.b2i]
 |.int x,b=>by cases b<;>simp[toPy,Kq,Dm.eqD,Dm.b2i]
 |.str x,b=>by
  cases b with
  |str y=>
   simp only[toPy,Kq,Dm.eqD];rw[Lz];simp only[beq_iff_eq];constructor
   ·intro h;have h:=congrArg (fun s:Str=>s.cps.toList) h
    simpa using h
   ·rintro rfl;rfl
  |_=>simp[toPy,Kq,Dm.eqD]
 |.tup xs,b=>by
  cases b with
  |tup ys=>simp only[toPy,Kq,Dm.eqD];exact iR xs ys
  |_=>simp[toPy,Kq,Dm.eqD]
 |.lst xs,b=>by
  cases b with
  |lst ys=>simp only[toPy,Kq,Dm.eqD];exact iR xs ys
  |_=>simp[toPy,Kq,Dm.eqD]
 |.dct ks vs,b=>by cases b<;>simp[toPy,Kq,Dm.eqD]
 |.dcp ks vs,b=>by cases b<;>simp[toPy,Kq,Dm.eqD]
 |.exc C,b=>by cases b<;>simp[toPy,Kq,Dm.eqD]
 |.cU C v,b=>by cases b<;>simp[toPy,Kq,Dm.eqD]
 |.fn C,b=>by cases b<;>simp[toPy,Kq,Dm.eqD]
theorem iR:∀a b:List Dat,LO (cI a) (cI b)=Dm.iM a b
 |[],b=>by cases b<;>simp[cI,LO,Dm.iM]
 |x::xs,b=>by
  cases b with
  |nil=>simp[cI,LO,Dm.iM]
  |cons y ys=>simp only[cI,LO,Dm.iM];rw[ig x y,iR xs ys]
end
theorem wC{s:List Nat}(h:(s.all fun c=>decide (c<128))=true):PyData.strOk ⟨s.toArray⟩=true:=by unfold PyData.strOk;rw[Array.all_eq_true'];intro c hc;have h1:=JZ.mp h c (by simpa using hc);have h2:c<128:=of_decide_eq_true h1;exact decide_eq_true (by lia)
theorem dF{P:Program}{w:World}{H:Hp}{h:Heap}(ok:HOk P w H h):∀(n:Nat),
  (∀(v:V) (d:Dat) (u:Value),Rep H v d->RelV v u->Dm.okD n d=true->∃as,Reads h u (toPy d) as/\(toPy d).canLay0=true/\(toPy d).depth<=n) /\
  (∀(vs:List V) (ds:List Dat) (us:List Value),aI H vs ds->Vals vs us->ds.all (Dm.okD n)=true->∃as,ReadsAll h us (cI ds) as/\LR (cI ds)=true/\KG (cI ds)<=n):=by
 intro n
 induction n with
 |zero=>
  have one:∀(v:V) (d:Dat) (u:Value),Rep H v d->RelV v u->Dm.okD 0 d=true->∃as,Reads h u (toPy d) as/\(toPy d).canLay0=true/\(toPy d).depth<=0:=by
   intro v d u r rv k;cases r with
   |non=>cases rv;exact⟨_,.none,rfl,JL _⟩
   |bl b=>cases rv;exact⟨_,.bool b,rfl,JL _⟩
   |int i=>obtain⟨t,rfl⟩:=rv;exact⟨_,.int i t,rfl,JL _⟩
   |str s=>obtain⟨t,rfl⟩:=rv;exact⟨_,.str _ t,wC k,JL _⟩
   |tup _ _=>cases k
   |lst _ _=>cases k
   |dct _ _ _=>cases k
   |dcp _ _ _=>cases k
   |exc _=>cases k
   |cU _ _=>cases k
   |fn _=>cases k
  refine⟨one,fun vs ds=>?_⟩
  induction ds generalizing vs with
  |nil=>intro us r rv _;cases r;cases rv;exact⟨_,.nil,rfl,JL _⟩
  |cons d ds ih=>
   intro us r rv k;cases r with
   |cons r rs=>
    cases rv with
    |cons q qs=>rw[LP,JY]at k;obtain⟨a1,h1,h2,h3⟩:=one _ _ _ r q k.1;obtain⟨a2,h4,h5,h6⟩:=ih _ _ rs qs k.2;exact⟨_,.cons h1 h4,by simp[cI,LR,h2,h5],by simp only[cI,KG];lia⟩
 |succ n ih=>
  have one:∀(v:V) (d:Dat) (u:Value),Rep H v d->RelV v u->Dm.okD (n+1) d=true->∃as,Reads h u (toPy d) as/\(toPy d).canLay0=true/\(toPy d).depth<=n+1:=by
   intro v d u r rv k;cases r with
   |non=>cases rv;exact⟨_,.none,rfl,J8 _⟩
   |bl b=>cases rv;exact⟨_,.bool b,rfl,J8 _⟩
   |int i=>obtain⟨t,rfl⟩:=rv;exact⟨_,.int i t,rfl,J8 _⟩
   |str s=>obtain⟨t,rfl⟩:=rv;exact⟨_,.str _ t,wC k,J8 _⟩
   |tup q rs=>cases rv;obtain⟨z,its,vr,ob,e,hc,m,hd⟩:=ok _ _ q;obtain⟨as,h1,h2,h3⟩:=ih.2 _ _ _ rs vr k;exact⟨_,.tuple e hc hd h1,h2,by simp only[toPy,PyData.depth];lia⟩
   |lst q rs=>cases rv;obtain⟨z,its,m,vr,e⟩:=q.ok ok;obtain⟨as,h1,h2,h3⟩:=ih.2 _ _ _ rs vr k;exact⟨_,.list e rfl rfl h1,h2,by simp only[toPy,PyData.depth];lia⟩
   |dct _ _ _=>cases k
   |dcp _ _ _=>cases k
   |exc _=>cases k
   |cU _ _=>cases k
   |fn _=>cases k
  refine⟨one,fun vs ds=>?_⟩
  induction ds generalizing vs with
  |nil=>intro us r rv _;cases r;cases rv;exact⟨_,.nil,rfl,J8 _⟩
  |cons d ds ih=>
   intro us r rv k;cases r with
   |cons r rs=>
    cases rv with
    |cons q qs=>rw[LP,JY]at k;obtain⟨a1,h1,h2,h3⟩:=one _ _ _ r q k.1;obtain⟨a2,h4,h5,h6⟩:=ih _ _ rs qs k.2;exact⟨_,.cons h1 h4,by simp[cI,LR,h2,h5],by simp only[cI,KG];lia⟩
theorem iP.full{H0 H:Hp}(s:au H0 H){v:V}{d:Dat}(r:iP H0 H v d):Rep H v d:=by
 rcases r with r | ⟨a,rfl,w⟩
 ·exact r.mono s
 ·cases d with
  |lst ds=>obtain⟨xs,q,rs⟩:=w;exact .lst (.inl q) (rs.mono s)
  |dct ks ds=>obtain⟨kvs,q,e,rs⟩:=w;exact .dct q e (rs.mono s)
  |dcp ks ds=>obtain⟨kvs,q,e,rs⟩:=w;exact .dcp q (e.mono s) (rs.mono s)
  |_=>exact J7 w
def zT(neg:Bool):R2:=fun x y H Q=>∃dx dy,Rep H x dx/\Rep H y dy/\Dm.okD 8 dx=true/\Dm.okD 8 dy=true/\Q (.bl (if neg then !Dm.eqD dx dy else Dm.eqD dx dy)) H
section
variable{X:Cx}
theorem wD{k:Nat}(hr:cj k X.A):OpR X (compareOp .Eq) (zT false):=by intro cM s σ H x y v u Q I rx ry h;obtain⟨dx,dy,r1,r2,k1,k2,q⟩:=h;obtain⟨as,h1,h2,h3⟩:=(dF I.hok 8).1 x dx v r1 rx k1;obtain⟨bs,h4,h5,h6⟩:=(dF I.hok 8).1 y dy u r2 ry k2;have hu:=hr.units;refine PySem.SeqAt.compareEq_reads h1 h4 h2 h5 (by lia) ?_;rw[ig];exact⟨.bl (Dm.eqD dx dy),H,I,rfl,q⟩
theorem C7{k:Nat}(hr:cj k X.A):OpR X (compareOp .NotEq) (zT true):=by intro cM s σ H x y v u Q I rx ry h;obtain⟨dx,dy,r1,r2,k1,k2,q⟩:=h;obtain⟨as,h1,h2,h3⟩:=(dF I.hok 8).1 x dx v r1 rx k1;obtain⟨bs,h4,h5,h6⟩:=(dF I.hok 8).1 y dy u r2 ry k2;have hu:=hr.units;refine PySem.SeqAt.compareNe_reads h1 h4 h2 h5 (by lia) ?_;rw[ig];exact⟨.bl (!Dm.eqD dx dy),H,I,rfl,q⟩
def F5(neg:Bool):R2:=fun x y H Q=>∃dx ds,Rep H x dx/\(Rep H y (.lst ds)\/Rep H y (.tup ds))/\Dm.okD 8 dx=true/\ds.all (Dm.okD 7)=true/\Q (.bl (if neg then !Dm.inD dx ds else Dm.inD dx ds)) H
theorem jV(x:Dat):∀ds:List Dat,((cI ds).any fun y=>Kq y (toPy x))=Dm.inD x ds
 |[]=>rfl
 |d::ds=>by have:=jV x ds;unfold Dm.inD at this ⊢;simp only[cI,List.any_cons,ig];rw[this]
theorem uU{k:Nat}(hr:cj k X.A):OpR X (compareOp .NotIn) (F5 true):=by
 intro cM s σ H x y v u Q I rx ry h;obtain⟨dx,ds,r1,r2,k1,k2,q⟩:=h;obtain⟨as,h1,h2,h3⟩:=(dF I.hok 8).1 x dx v r1 rx k1;have hu:=hr.units;rcases r2 with r2 | r2
 ·obtain⟨bs,h4,h5,h6⟩:=(dF I.hok 8).1 y (.lst ds) u r2 ry k2;have h6:KG (cI ds)+1<=8:=h6;refine PySem.SeqAt.notIn_list_reads h4 h1 h5 h2 (by lia) ?_;rw[jV];exact⟨.bl (!Dm.inD dx ds),H,I,rfl,q⟩
 ·obtain⟨bs,h4,h5,h6⟩:=(dF I.hok 8).1 y (.tup ds) u r2 ry k2;have h6:KG (cI ds)+1<=8:=h6;refine PySem.SeqAt.notIn_tuple_reads h4 h1 h5 h2 (by lia) ?_;rw[jV];exact⟨.bl (!Dm.inD dx ds),H,I,rfl,q⟩
end
section
variable{H0 H:Hp}{ds:List Dat}{v:V}
theorem aB{i:Int}(r:iP H0 H v (.int i)):v=.int i:=by
 rcases r with r | ⟨a,_,w⟩
 ·exact Rep.isInt r
 ·exact J7 w
theorem zU{b:Bool}(r:iP H0 H v (.bl b)):v=.bl b:=by
 rcases r with r | ⟨a,_,w⟩
 ·exact Rep.nB r
 ·exact J7 w
theorem b9(s:au H0 H)(r:iP H0 H v (.lst ds)):∃a xs,v=.ref a/\Rd H a (.lst xs)/\aI H0 xs ds:=by
 rcases r with r | ⟨a,e,xs,q,rs⟩
 ·cases r with
  |lst q rs=>exact⟨_,_,rfl,au.rd s q,rs⟩
 ·exact⟨a,xs,e,.inl q,rs⟩
theorem jW(s:au H0 H)(r:iP H0 H v (.tup ds)):∃a xs,v=.ref a/\H a=some (.tup xs)/\aI H0 xs ds:=by
 rcases r with r | ⟨a,_,w⟩
 ·cases r with
  |tup q rs=>exact⟨_,_,rfl,s _ _ q,rs⟩
 ·exact J7 w
theorem C8:OpD (rI0 fun i j=>.int (i-j)) Dm.aZ:=by
 intro H0 H x y dx dy z Q s rx ry e k;unfold Dm.aZ at e;split at e
 ·cases e;cases aB rx;cases aB ry;exact⟨_,_,rfl,rfl,k _ H0 H (aP.refl s) (.int _)⟩
 ·cases e
theorem BC:OpD (rI0 fun i j=>.bl (decide (i<j))) Dm.gLt:=by
 intro H0 H x y dx dy z Q s rx ry e k;unfold Dm.gLt at e;split at e
 ·cases e;cases aB rx;cases aB ry;exact⟨_,_,rfl,rfl,k _ H0 H (aP.refl s) (.bl _)⟩
 ·cases e
theorem oW:OpD (rI0 fun i j=>.bl (decide (i<=j))) Dm.gLe:=by
 intro H0 H x y dx dy z Q s rx ry e k;unfold Dm.gLe at e;split at e
 ·cases e;cases aB rx;cases aB ry;exact⟨_,_,rfl,rfl,k _ H0 H (aP.refl s) (.bl _)⟩
 ·cases e
theorem F6:OpD (rI0 fun i j=>.bl (decide (j<i))) Dm.gGt:=by
 intro H0 H x y dx dy z Q s rx ry e k;unfold Dm.gGt at e;split at e
 ·cases e;cases aB rx;cases aB ry;exact⟨_,_,rfl,rfl,k _ H0 H (aP.refl s) (.bl _)⟩
 ·cases e
theorem C9:OpD (rI (fun _ j=>0<j) fun i j=>.int (i % j)) Dm.aE:=by
 intro H0 H x y dx dy z Q s rx ry e k;unfold Dm.aE at e;split at e
 ·split at e
  ·rename_i hj;cases e;cases aB rx;cases aB ry;exact⟨_,_,rfl,rfl,hj,k _ H0 H (aP.refl s) (.int _)⟩
  ·cases e
 ·cases e
theorem C_:OpD (rI Ff fun i j=>.int (i ^ j.toNat)) Dm.br:=by
 intro H0 H x y dx dy z Q s rx ry e k;unfold Dm.br at e;split at e
 ·split at e
  ·rename_i hj;cases e;cases aB rx;cases aB ry;exact⟨_,_,rfl,rfl,⟨hj.1,hj.2.1,Nat.lt_trans hj.2.2 (by decide)⟩,k _ H0 H (aP.refl s) (.int _)⟩
  ·cases e
 ·cases e
end
section
variable{X:Cx}
def BE(i j:Int):Prop:=0<j/\j<Dm.dW
theorem wF:OpR X (binaryOp .FloorDiv) (rI BE fun i j=>.int (i / j)):=opI fun i j _ _ _ _ _ hc q=>by
 have h:j.natAbs.log2<9000:=by
  have h1:j.natAbs<2 ^ 200:=by
   have:=hc.2;unfold Dm.dW at this;have h2:=hc.1;have e:(2:Nat) ^ 200=1606938044258990275541962092341162602522202993782792835301376:=by decide +kernel
   omega
  have h3:j.natAbs≠0:=by have:=hc.1;omega
  have:=(L5 h3).mpr h1;omega
 have e:i.fdiv j=i / j:=Int.fdiv_eq_ediv_of_nonneg i (Int.le_of_lt hc.1);rw[<- e]at q;exact floordiv_int (Int.ne_of_gt hc.1) q (.inl (PyProof.noPylong_of_log2 h))
end
theorem Dc:OpD (rI BE fun i j=>.int (i / j)) Dm.aX:=by
 intro H0 H x y dx dy z Q s rx ry e k;unfold Dm.aX at e;split at e
 ·split at e
  ·rename_i hj;cases e;cases aB rx;cases aB ry;exact⟨_,_,rfl,rfl,hj,k _ H0 H (aP.refl s) (.int _)⟩
  ·cases e
 ·cases e
theorem Dd:UnD (rU fun i=>.int (-i)) Dm.bu:=by
 intro H0 H x dx z Q s rx e k;unfold Dm.bu at e;split at e
 ·cases e;cases aB rx;exact⟨_,rfl,k _ H0 H (aP.refl s) (.int _)⟩
 ·cases e
def wG:R2:=fun x y H Q=>∃l b xs zs,x=.ref l/\y=.ref b/\Rd H l (.lst xs)/\Rd H b (.lst zs)/\xs.length+zs.length<=sizeLine/\∀p,H p=none->Q (.ref p) (upd H p (.lst (xs++zs)))
def wH:R2:=fun x y H Q=>∃l k xs,x=.ref l/\y=.int k/\Rd H l (.lst xs)/\-(2 ^ 63)<=k/\k<2 ^ 63/\xs.length*k.toNat<=sizeLine /\
 ∀p,H p=none->Q (.ref p) (upd H p (.lst (gc k.toNat xs).flatten))
section
variable{X:Cx}
theorem zV:OpR X (binaryOp .Add) wG:=by
 intro cM s σ H x y v u Q I rx ry h;obtain⟨l,b,xs,zs,rfl,rfl,hH,hB,hz,q⟩:=h;cases rx;cases ry;obtain⟨z,its,n,r,e⟩:=hH.ok I.hok;obtain⟨z2,its2,n2,r2,e2⟩:=hB.ok I.hok;have hl:=r.length;have hl2:=r2.length;refine PySem.P.add_list e e2 ?_ (by rw[JR,JR];lia);have ea:its.toArray++its2.toArray=(its++its2).toArray:=by simp
 rw[ea];exact⟨.ref _,_,I.CT (t':=s.toks) (r.append r2) (by rw[JO];lia),rfl,q _ I.fresh⟩
theorem zW:OpR X (binaryOp .Mult) wH:=by
 intro cM s σ H x y v u Q I rx ry h;obtain⟨l,k,xs,rfl,rfl,hH,h1,h2,hz,q⟩:=h;cases rx;obtain⟨t,rfl⟩:=ry;obtain⟨z,its,n,r,e⟩:=hH.ok I.hok;have hl:=r.length;have AY:its.toArray.size*k.toNat<=sizeLine:=by rw[JR,<- hl];exact hz
 have hcap:¬its.toArray.size*k.toNat>(2 ^ 63-1) / 8:=by
  have:(sizeLine:Nat)<=(2 ^ 63-1) / 8:=by decide
  lia
 have hfit:¬(!Builtin.List.listFitsIndex k)=true:=by rw[fitsIndex_both h1 h2];exact J1
 have F7:¬Lh (its.toArray.size*k.toNat)=true:=by rw[v_ AY];exact J1
 have hnew:Mk (fun x1 x2=>x1++x2) #[] (gc (if its.toArray.isEmpty=true then 0 else k.toNat) its.toArray)=(gc k.toNat its).flatten.toArray:=by
  have f0:∀m:Nat,Mk (fun x1 x2=>x1++x2) #[] (gc m its.toArray)=(gc m its).flatten.toArray:=fun m=>by have:=foldl_rep its m [];rw[Jt]at this;exact this
  rw[f0];cases its with
  |nil=>simp
  |cons a r'=>rw[if_neg (by simp)]
 refine wpAny_binaryOp_repeat_ref (T := "list") (U := "int") (by decide) ⟨_,e,rfl⟩ (fun s'=>typeIs_int s' k t) noFill_list_mul F.fills_int_mul F.slot_int_rmul repeat_list F.slot_int_index.lookup
  (call_meets F.slot_int_rmul (typeIs_int s k t) F.entry_int_rmul (F.args_int_rmul_2 _ _) (int___rmul___int_list k t l its.toArray n)
   ⟨e,rfl,⟨_,e,rfl⟩,call_meets F.slot_list_mul ⟨_,e,rfl⟩ F.entry_list_mul (F.args_list_mul_2 _ _) (AutoListH.list___mul___list_int_3 l its.toArray n k t hfit hcap F7) ⟨e,?_⟩⟩)
 rw[hnew];exact⟨.ref _,_,I.CT (t':=s.toks) (r.rep k.toNat) (by rw[len_rep,Nat.mul_comm];exact hz),rfl,q _ I.fresh⟩
theorem zX:OpR X (binaryOp .Add) (fun x y H Q=>rI0 (fun i j=>.int (i+j)) x y H Q\/wG x y H Q):=CB.or zV
theorem zY:OpR X (binaryOp .Mult) (fun x y H Q=>rI vS (fun i j=>.int (i*j)) x y H Q\/wH x y H Q):=CD.or zW
end
theorem De:OpD (fun x y H Q=>rI0 (fun i j=>.int (i+j)) x y H Q\/wG x y H Q) Dm.aN:=by
 intro H0 H x y dx dy z Q s rx ry e k;unfold Dm.aN at e;split at e
 ·cases e;cases aB rx;cases aB ry;exact .inl ⟨_,_,rfl,rfl,k _ H0 H (aP.refl s) (.int _)⟩
 ·split at e
  ·rename_i hz;cases e;obtain⟨a,us,rfl,qa,ra⟩:=b9 s rx;obtain⟨b,ws,rfl,qb,rb⟩:=b9 s ry;refine .inr ⟨a,b,us,ws,rfl,rfl,qa,qb,by rw[ra.length,rb.length];exact cu hz,fun p hp=>?_⟩;exact k _ _ _ (aP.l6 s hp) ⟨p,rfl,hp,s.free hp,_,aV,ra.append rb⟩
  ·cases e
 ·cases e
theorem Df:OpD (fun x y H Q=>rI vS (fun i j=>.int (i*j)) x y H Q\/wH x y H Q) Dm.aS:=by
 intro H0 H x y dx dy z Q s rx ry e k;unfold Dm.aS at e;split at e
 ·split at e
  ·rename_i hj;cases e;cases aB rx;cases aB ry;exact .inl ⟨_,_,rfl,rfl,hj,k _ H0 H (aP.refl s) (.int _)⟩
  ·cases e
 ·split at e
  ·rename_i hz;cases e;cases aB ry;obtain⟨a,us,rfl,qa,ra⟩:=b9 s rx;obtain⟨h1,h2,h3⟩:=hz;unfold Dm.BIG at h1 h2;refine .inr ⟨a,_,us,rfl,rfl,qa,by lia,by lia,by rw[ra.length];exact cu h3,fun p hp=>?_⟩;exact k _ _ _ (aP.l6 s hp) ⟨p,rfl,hp,s.free hp,_,aV,ra.rep _⟩
  ·cases e
 ·cases e
theorem BF:OpD (zT false) Dm.gEq:=by
 intro H0 H x y dx dy z Q s rx ry e k;unfold Dm.gEq at e;split at e
 ·rename_i hk;rw[JY]at hk;cases e;exact⟨dx,dy,rx.full s,ry.full s,hk.1,hk.2,k _ H0 H (aP.refl s) (.bl _)⟩
 ·cases e
theorem F8:OpD (zT true) Dm.gNe:=by
 intro H0 H x y dx dy z Q s rx ry e k;unfold Dm.gNe at e;split at e
 ·rename_i hk;rw[JY]at hk;cases e;exact⟨dx,dy,rx.full s,ry.full s,hk.1,hk.2,k _ H0 H (aP.refl s) (.bl _)⟩
 ·cases e
theorem wI:OpD (F5 true) Dm.iN:=by
 intro H0 H x y dx dy z Q s rx ry e k;unfold Dm.iN at e;split at e
 ·split at e
  ·rename_i hk;rw[JY]at hk;cases e;exact⟨dx,_,rx.full s,.inl (ry.full s),hk.1,hk.2,k _ H0 H (aP.refl s) (.bl _)⟩
  ·cases e
 ·split at e
  ·rename_i hk;rw[JY]at hk;cases e;exact⟨dx,_,rx.full s,.inr (ry.full s),hk.1,hk.2,k _ H0 H (aP.refl s) (.bl _)⟩
  ·cases e
 ·cases e
theorem sX{H0:Hp}{xs:List V}{ds:List Dat}{i:Int}{d:Dat}(rs:aI H0 xs ds)(e:Dm.atI ds i=some d):∃v,L2.atI xs i=some v/\Rep H0 v d:=by
 unfold Dm.atI at e;cases q:Dm.ixN ds.length i with
 |none=>rw[q]at e;cases e
 |some j=>rw[q]at e;obtain⟨v,hv,r⟩:=rs.get (i:=j) e;refine⟨v,?_,r⟩;unfold L2.atI;rw[rs.length];have q':L2.ixN ds.length i=some j:=q;rw[q'];exact hv
theorem F9{K:Js}:OpD (fun x y H Q=>Fl K x y H Q\/CO K x y H Q) Dm.gIx:=by
 intro H0 H x y dx dy z Q s rx ry e k;unfold Dm.gIx at e;split at e
 ·rename_i ds i;cases q:Dm.atI ds i with
  |none=>rw[q]at e;cases e
  |some d=>rw[q]at e;cases e;cases aB ry;obtain⟨a,us,rfl,qa,ra⟩:=b9 s rx;obtain⟨v,hv,rv⟩:=sX ra q;exact .inl ⟨a,us,i,v,rfl,rfl,.inl qa,hv,k _ H0 H (aP.refl s) rv⟩
 ·rename_i ds i;cases q:Dm.atI ds i with
  |none=>rw[q]at e;cases e
  |some d=>rw[q]at e;cases e;cases aB ry;obtain⟨a,us,rfl,qa,ra⟩:=jW s rx;obtain⟨v,hv,rv⟩:=sX ra q;exact .inr ⟨a,us,i,v,rfl,rfl,.inl (.inl qa),hv,k _ H0 H (aP.refl s) rv⟩
 ·cases e
theorem Dg{K:Js}:CallD (fun xs H Q=>∃p ys,xs=[.ref p]/\(SqL K H p ys\/SqT K H p ys)/\Q (.int ys.length) H) Dm.aU:=by
 intro H0 H vs ds z Q s rs e k;unfold Dm.aU at e;split at e
 ·cases e;cases rs with
  |cons r rr=>cases rr;obtain⟨a,us,rfl,qa,ra⟩:=b9 s r;exact⟨a,us,rfl,.inl (.inl qa),k _ H0 H (aP.refl s) (by rw[ra.length];exact .int _)⟩
 ·cases e;cases rs with
  |cons r rr=>cases rr;obtain⟨a,us,rfl,qa,ra⟩:=jW s r;exact⟨a,us,rfl,.inr (.inl (.inl qa)),k _ H0 H (aP.refl s) (by rw[ra.length];exact .int _)⟩
 ·cases e
theorem zZ:CallD (fun xs H Q=>∃i j,xs=[.int i,.int j]/\Q (.int (if j<i then j else i)) H) Dm.aL:=by
 intro H0 H vs ds z Q s rs e k;unfold Dm.aL at e;split at e
 ·cases e;cases rs with
  |cons r rr=>
   cases rr with
   |cons r' rr=>cases rr;cases aB r;cases aB r';exact⟨_,_,rfl,k _ H0 H (aP.refl s) (.int _)⟩
 ·cases e
theorem z5:CallD (fun xs H Q=>∃i j,xs=[.int i,.int j]/\Q (.int (if j>i then j else i)) H) Dm.aQ:=by
 intro H0 H vs ds z Q s rs e k;unfold Dm.aQ at e;split at e
 ·cases e;cases rs with
  |cons r rr=>
   cases rr with
   |cons r' rr=>cases rr;cases aB r;cases aB r';exact⟨_,_,rfl,k _ H0 H (aP.refl s) (.int _)⟩
 ·cases e
theorem z6{K:Js}:CallD (fun xs H Q=>∃p ys,xs=[.ref p]/\(SqL K H p ys\/SqT K H p ys)/\∀l,H l=none->Q (.ref l) (upd H l (.lst ys))) Dm.aT:=by
 intro H0 H vs ds z Q s rs e k;unfold Dm.aT at e;split at e
 ·cases e;cases rs with
  |cons r rr=>cases rr;obtain⟨a,us,rfl,qa,ra⟩:=b9 s r;exact⟨a,us,rfl,.inl (.inl qa),fun p hp=>k _ _ _ (aP.l6 s hp) ⟨p,rfl,hp,s.free hp,_,aV,ra⟩⟩
 ·cases e;cases rs with
  |cons r rr=>cases rr;obtain⟨a,us,rfl,qa,ra⟩:=jW s r;exact⟨a,us,rfl,.inr (.inl (.inl qa)),fun p hp=>k _ _ _ (aP.l6 s hp) ⟨p,rfl,hp,s.free hp,_,aV,ra⟩⟩
 ·cases e
noncomputable abbrev DS(X:Cx)(st:Stmt)(f:FS):Prop:=PS X st (tDS f)
noncomputable abbrev DSs(X:Cx)(st:List Stmt)(f:FS):Prop:=PSs X st (tDS f)
noncomputable abbrev DI(X:Cx)(tg it:Expr)(f:Dm.FI):Prop:=PI X tg it (tDI f)
theorem PI.weak{X:Cx}{tg it:Expr}{t t':TI}(h:PI X tg it t)(k:∀σ H R,t' σ H R->t σ H R):PI X tg it t':=fun cM s σ H R I q=>h cM s σ H R I (k σ H R q)
section
variable{X:Cx}{a b c e:Expr}{fa fb fc f:FE}{pos:Pos}
section
variable{g:Dat->Dat->Option RV}{r:List V->Hp->VK->Prop}{pM:List Expr}{x:Str}{k:Nat}{i:Int}
theorem d_v(i:Nat)(hN:X.N[i]?=some x:=by rfl)(hv:Vis X.env.scope x:=by trivial)(hd:(x == ("__debug__" : Str))=false:=by decide)
  (IU:(x == ("__classdict__" : Str))=false:=by decide):DE X (.Name x pos) (Dm.eV i):=PE.weak (jO hN hv hd IU) fun _ _ _=>Fz
theorem d_i{j}:DE X (.Constant (.int i) j pos) (Dm.eC (.int i)):=PE.weak vK fun _ _ _=>fK fun _=>.int i
theorem d_b{v:Bool}{j}:DE X (.Constant (.bool v) j pos) (Dm.eC (.bl v)):=PE.weak E8 fun _ _ _=>fK fun _=>.bl v
theorem d_n{j}:DE X (.Constant .none j pos) (Dm.eC .non):=PE.weak Cn fun _ _ _=>fK fun _=>.non
theorem d_s{s:List Nat}{j}(hx:x=⟨s.toArray⟩:=by rfl):DE X (.Constant (.str x) j pos) (Dm.eC (.str s)):=by subst hx;exact PE.weak Co fun _ _ _=>fK fun _=>.str s
theorem d_g{t:Tok}(hg:Gl X x)(hm:X.mg x=some (.int i t))(hd:(x == ("__debug__" : Str))=false:=by decide):DE X (.Name x pos) (Dm.eC (.int i)):=
 PE.weak (sI (v:=.int i) hg hm ⟨t,rfl⟩ hd) fun _ _ _=>fK fun _=>.int i
theorem q_{op:Operator}{r:R2}(o:OpR X (binaryOp op) r)(od:OpD r g)(ha:DE X a fa)(hb:DE X b fb):DE X (.BinOp a op b pos) (Dm.e2 g fa fb):=
 PE.weak (Fc o ha hb) fun _ _ _=>wk od
theorem b_(ha:DE X a fa)(hb:DE X b fb):DE X (.BinOp a .Add b pos) (Dm.e2 Dm.aN fa fb):=q_ zX De ha hb
theorem jk(ha:DE X a fa)(hb:DE X b fb):DE X (.BinOp a .Sub b pos) (Dm.e2 Dm.aZ fa fb):=q_ CC C8 ha hb
theorem eE(ha:DE X a fa)(hb:DE X b fb):DE X (.BinOp a .Mult b pos) (Dm.e2 Dm.aS fa fb):=q_ zY Df ha hb
theorem fW(ha:DE X a fa)(hb:DE X b fb):DE X (.BinOp a .FloorDiv b pos) (Dm.e2 Dm.aX fa fb):=q_ wF Dc ha hb
theorem bJ(ha:DE X a fa)(hb:DE X b fb):DE X (.BinOp a .Mod b pos) (Dm.e2 Dm.aE fa fb):=q_ CF C9 ha hb
theorem mJ(ha:DE X a fa)(hb:DE X b fb):DE X (.BinOp a .Pow b pos) (Dm.e2 Dm.br fa fb):=q_ CG C_ ha hb
theorem wJ(ha:DE X a fa):DE X (.UnaryOp .USub a pos) (Dm.e1 Dm.bu fa):=PE.weak (Fd CH ha) fun _ _ _=>CW Dd
theorem oX{op:CmpOp}{r:R2}(o:OpR X (compareOp op) r)(od:OpD r g)(ha:DE X a fa)(hb:DE X b fb)(hm:behindInMarks op b=false):DE X (.Compare a [op] [b] pos) (Dm.e2 g fa fb):=
 PE.weak (zD o ha hb hm) fun _ _ _=>wk od
theorem sY{op:CmpOp}{r:R2}(o:OpR X (compareOp op) r)(od:OpD r g)(ha:DE X a fa)(hb:DE X b fb)(hm:behindInMarks op b=false):DT X (.Compare a [op] [b] pos) (Dm.tV (Dm.e2 g fa fb)):=
 PT.weak (zF o ha hb hm) fun σ H Q h=>wk od (qX h)
theorem F_(hr:cj k X.A)(ha:DE X a fa)(hb:DE X b fb):DE X (.Compare a [.Eq] [b] pos) (Dm.e2 Dm.gEq fa fb):=oX (wD hr) BF ha hb (f6 _)
theorem Iv(ha:DE X a fa)(hb:DE X b fb):DE X (.Compare a [.Lt] [b] pos) (Dm.e2 Dm.gLt fa fb):=oX BA BC ha hb (f6 _)
theorem Iw(ha:DE X a fa)(hb:DE X b fb):DE X (.Compare a [.LtE] [b] pos) (Dm.e2 Dm.gLe fa fb):=oX oJ oW ha hb (f6 _)
theorem Ga(hr:cj k X.A)(ha:DE X a fa)(hb:DE X b fb)(hm:behindInMarks .NotIn b=false:=by rfl):DE X (.Compare a [.NotIn] [b] pos) (Dm.e2 Dm.iN fa fb):=oX (uU hr) wI ha hb hm
theorem iU(hr:cj k X.A)(ha:DE X a fa)(hb:DE X b fb):DT X (.Compare a [.Eq] [b] pos) (Dm.tV (Dm.e2 Dm.gEq fa fb)):=sY (wD hr) BF ha hb (f6 _)
theorem jX(hr:cj k X.A)(ha:DE X a fa)(hb:DE X b fb):DT X (.Compare a [.NotEq] [b] pos) (Dm.tV (Dm.e2 Dm.gNe fa fb)):=sY (C7 hr) F8 ha hb (f6 _)
theorem Iz(ha:DE X a fa)(hb:DE X b fb):DT X (.Compare a [.Lt] [b] pos) (Dm.tV (Dm.e2 Dm.gLt fa fb)):=sY BA BC ha hb (f6 _)
theorem z7(ha:DE X a fa)(hb:DE X b fb):DT X (.Compare a [.Gt] [b] pos) (Dm.tV (Dm.e2 Dm.gGt fa fb)):=sY Fg F6 ha hb (f6 _)
theorem bf(ha:DE X a fa)(hb:DE X b fb)(hs:jH b:=by intro _ _;rfl):DE X (.Subscript a b pos) (Dm.e2 Dm.gIx fa fb):=PE.weak (v5 (zL.or v7) ha hb hs) fun _ _ _=>wk F9
theorem af:DA X [] []:=PA.weak qP fun _ _ _=>FA
theorem aa{es:List Expr}{fs:List FE}(h:DE X e f)(r:DA X es fs)(hs:starEach (e::es) X.env=(false,eval e X.env)::starEach es X.env:=by rfl):DA X (e::es) (f::fs):=PA.weak (jG h r hs) fun _ _ _=>CY
theorem e9{es:List Expr}{fs:List FE}{x1}(h:DA X es fs):DE X (.Tuple es x1 pos) (Dm.a_ fs):=PE.weak (vX h) fun _ _ _=>FD
theorem e_{es:List Expr}{fs:List FE}(h:DA X es fs):DE X (.List es pos) (Dm.aW fs):=PE.weak (CL h) fun _ _ _=>FF
theorem uV{es:List Expr}{fs:List FE}{g:List Dat->Option RV}{id:String}{p:Pos}(hc:dg X (.builtin id) r)(cd:CallD r g)(hv:bootBuiltins x=some (.builtin id))(hg:Gl X x)(hm:X.mg x=none)(ha:DA X (e::es) fs)
  (hn:x ≠ "__name__" := by decide) (NV:(x == ("__debug__" : Str))=false:=by decide) (he:starEach (e::es) X.env=(false,eval e X.env)::starEach es X.env:=by rfl) (En:(backTo pos (starEach es X.env)).any (·.1)=false:=by rfl) :
  DE X (.Call (.Name x p) (e::es) [] pos) (Dm.eB g fs):=PE.weak (oN hc hg hm hv ha hn NV he En) fun _ _ _=>CZ cd
theorem z8{es:List Expr}{fs:List FE}{g:List Dat->Option RV}{T:String}{p:Pos}(hc:dg X (.type T) r)(cd:CallD r g)(hv:bootBuiltins x=some (.type T))(hg:Gl X x)(hm:X.mg x=none)(ha:DA X (e::es) fs)
  (hn:x ≠ "__name__" := by decide) (NV:(x == ("__debug__" : Str))=false:=by decide) (he:starEach (e::es) X.env=(false,eval e X.env)::starEach es X.env:=by rfl) (En:(backTo pos (starEach es X.env)).any (·.1)=false:=by rfl) :
  DE X (.Call (.Name x p) (e::es) [] pos) (Dm.eB g fs):=PE.weak (uO hc hg hm hv ha hn NV he En) fun _ _ _=>CZ cd
variable{es:List Expr}{fs:List FE}{p:Pos}
theorem fX(hg:Gl X "len")(hm:X.mg "len" = none)(ha:DA X [e] fs)(he:starEach [e] X.env=[(false,eval e X.env)]:=by rfl)(En:(backTo pos (starEach [] X.env)).any (·.1)=false:=by rfl):DE X (.Call (.Name "len" p) [e] [] pos) (Dm.eB Dm.aU fs):=uV nq Dg PySem.boot_len hg hm ha (he:=he) (En:=En)
theorem rj(hc:X.calm=true)(hg:Gl X "min")(hm:X.mg "min" = none)(ha:DA X [a,b] fs)(he:starEach [a,b] X.env=(false,eval a X.env)::starEach [b] X.env:=by rfl)(En:(backTo pos (starEach [b] X.env)).any (·.1)=false:=by rfl):DE X (.Call (.Name "min" p) [a,b] [] pos) (Dm.eB Dm.aL fs):=uV (uJ hc) zZ (by rfl) hg hm ha (he:=he) (En:=En)
theorem Dh(hc:X.calm=true)(hg:Gl X "max")(hm:X.mg "max" = none)(ha:DA X [a,b] fs)(he:starEach [a,b] X.env=(false,eval a X.env)::starEach [b] X.env:=by rfl)(En:(backTo pos (starEach [b] X.env)).any (·.1)=false:=by rfl):DE X (.Call (.Name "max" p) [a,b] [] pos) (Dm.eB Dm.aQ fs):=uV (uI hc) z5 (by rfl) hg hm ha (he:=he) (En:=En)
theorem Di(hg:Gl X "list")(hm:X.mg "list" = none)(ha:DA X [e] fs)(he:starEach [e] X.env=[(false,eval e X.env)]:=by rfl)(En:(backTo pos (starEach [] X.env)).any (·.1)=false:=by rfl):DE X (.Call (.Name "list" p) [e] [] pos) (Dm.eB Dm.aT fs):=z8 nv z6 (by rfl) hg hm ha (he:=he) (En:=En)
theorem aD{F:Addr}{fd:FuncData}{ps:List Str}{g:List Dat->Option RV}(G:bK X.prog X.w X.K X.mg X.base CX0 k F fd ps (spD g))(hr:cj k X.A)(hg:Gl X x)(hm:X.mg x=some (.ref F))(hk:KQ X.K (.ref F)=true)(hb:Binds X.K fd ps [])
  (ha:DA X (e::es) fs) (NV:(x == ("__debug__" : Str))=false:=by decide) (he:starEach (e::es) X.env=(false,eval e X.env)::starEach es X.env:=by rfl) (En:(backTo pos (starEach es X.env)).any (·.1)=false:=by rfl) :
  DE X (.Call (.Name x p) (e::es) [] pos) (Dm.eF g fs):=PE.weak (nh G hr hg hm hk hb .nil (we (X:=X)) ha NV he En) fun _ _ _=>C0
theorem Gb{t:FT}{q:Expr}(hq:DT X q t)(ha:DE X a fa)(hb:DE X b fb):DE X (.IfExp q a b pos) (Dm.eIf t fa fb):=PE.weak (vL hq ha hb) fun _ _ _=>Ij
theorem sZ{op}(h:DE X a fa):DE X (.BoolOp op [a] pos) fa:=Cr h
theorem oY(ha:DE X a fa)(hb:DE X (.BoolOp .And (b::pM) pos) fb):DE X (.BoolOp .And (a::b::pM) pos) (Dm.bq fa fb):=PE.weak (Cs ha hb) fun _ _ _=>FG
theorem Gd(ha:DE X a fa):DE X (.UnaryOp .Not a pos) (Dm.bC fa):=PE.weak (Ct ha) fun _ _ _=>FH
noncomputable abbrev DW(X:Cx)(e:Expr)(f:FT):Prop:=PW X e (tDT f)
theorem PW.weak{t t':TT}(h:PW X e t)(k:∀σ H Q,t' σ H Q->t σ H Q):PW X e t':=fun whole cM s σ H Q I q=>h whole cM s σ H Q I (k σ H Q q)
variable{ta tb:FT}
theorem Dj(h:DT X a ta):DW X (.BoolOp .And [a] pos) ta:=pw_and1 h
theorem jl(h:DT X a ta):DW X (.BoolOp .Or [a] pos) ta:=pw_or1 h
theorem w_and(ha:DT X a ta)(hb:DW X (.BoolOp .And (b::pM) pos) tb):DW X (.BoolOp .And (a::b::pM) pos) (Dm.bz ta tb):=PW.weak (pw_and ha hb) fun _ _ _=>C2
theorem w_or(ha:DT X a ta)(hb:DW X (.BoolOp .Or (b::pM) pos) tb):DW X (.BoolOp .Or (a::b::pM) pos) (Dm.tOr ta tb):=PW.weak (pw_or ha hb) fun _ _ _=>FJ
theorem t_w(h:DW X a ta):DT X a ta:=h.pt
theorem cJ(h:DT X a ta):DT X (.UnaryOp .Not a pos) (Dm.aR ta):=PT.weak (Cq h) fun _ _ _=>C1
theorem cL(h:DE X e f)(he:∀whole,isTrue e X.env whole=(do let v <- whole;standAt e.pos;holding [v] (truthy v)):=by intro _;rfl):DT X e (Dm.tV f):=PT.weak (Cp h he) fun _ _ _=>qX
variable{tg:Expr}
theorem Dl(hg:Gl X "range")(hm:X.mg "range" = none)(ha:DA X [a] [fa])(hs:starEach [a] X.env=[(false,eval a X.env)]:=by rfl):DI X tg (.Call (.Name "range" p) [a] [] pos) (Dm.iR1 fa):=
 PI.weak (uE hg hm ha hs) fun _ _ _=>F1
theorem Ge(hg:Gl X "range")(hm:X.mg "range" = none)(ha:DA X [a,b] [fa,fb])(hs:starEach [a,b] X.env=[(false,eval a X.env),(false,eval b X.env)]:=by rfl)(hs2:starEach [b] X.env=[(false,eval b X.env)]:=by rfl):DI X tg (.Call (.Name "range" p) [a,b] [] pos) (Dm.iR2 fa fb):=
 PI.weak (uF hg hm ha hs hs2) fun _ _ _=>F2
end
end
section
variable{X:Cx}{st:Stmt}{pM:List Stmt}{fs gs:FS}{e a b c:Expr}{f fa fb:FE}{pos:Pos}
section
variable{is:List Nat}{es:List Expr}{x:Str}{body:List Stmt}{t:FT}
theorem bQ:DSs X [] Dm.sNx:=PSs.weak m7 fun _ _ _=>Ik
theorem ak(h1:DS X st fs)(h2:DSs X pM gs):DSs X (st::pM) (Dm.ai fs gs):=PSs.weak (dw h1 h2) fun _ _ _=>FO
theorem aA(h1:DS X st fs):DSs X [st] fs:=jF h1
theorem s_a(i:Nat){pos':Pos}(hN:X.N.Nodup)(he:DE X e f)(hi:X.N[i]?=some x:=by rfl)(hx:Loc X.env.scope x:=by trivial)(hs:swapsWith e (some (.Name x pos')) pos.line X.env=pure false:=by rfl)
  (hf:X.fn x=true\/X.env.scope.names.lookup x=some .local:=by trivial):DS X (.Assign [.Name x pos'] e pos) (Dm.sA i f):=PS.weak (qK hN hi hx he hs hf) fun _ _ _=>wo
theorem gb:PGs X [] (cY []):=zB
theorem bO(i:Nat){px:Pos}(hN:X.N.Nodup)(h2:PGs X es (cY is))(hi:X.N[i]?=some x:=by rfl)(hx:Loc X.env.scope x:=by trivial)
  (hf:X.fn x=true\/X.env.scope.names.lookup x=some .local:=by trivial) (hs:(assignEach (.Name x px::es) X.env).map (·.2)=assign (.Name x px) X.env::(assignEach es X.env).map (·.2):=by rfl):PGs X (.Name x px::es) (cY (i::is)):=vN (m9 hN hi hx hf) h2 hs
theorem s_u{k:Nat}{tpos:Pos}(hc:X.calm=true)(hg:PGs X es (cY is))(he:DE X e f)(hn:(assignEach es X.env).length=is.length:=by rfl)(hst:(assignEach es X.env).findIdx? (·.1)=none:=by rfl)
  (hs:swapsWithSole [.Tuple es k tpos] e pos.line X.env=pure false:=by rfl) (hw:swappedStores [.Tuple es k tpos] e X.env=pure none:=by rfl) (h1:(assignEach [.Tuple es k tpos] X.env).map (·.2)=[assign (.Tuple es k tpos) X.env]:=by rfl) :
  DS X (.Assign [.Tuple es k tpos] e pos) (Dm.sU is f):=PS.weak (qJ he (nc hc hg hn hst) hs hw h1) fun _ _ _=>wu rfl
theorem s_e(he:DE X e f)(hs:swapsWith e none pos.line X.env=pure false:=by rfl):DS X (.Expr e pos) (Dm.sE f):=PS.weak (m8 he hs) fun _ _ _=>C3
theorem s_r(he:DE X e f):DS X (.Return (some e) pos) (Dm.sR f):=PS.weak (qI he) fun _ _ _=>FU
theorem cK{x y:List Stmt}(ht:DT X c t)(ha:DSs X x fs)(hb:DSs X y gs):DS X (.If c x y pos) (Dm.sIf t fs gs):=PS.weak (vM ht ha hb) fun _ _ _=>FW
theorem jI:DS X st (fun _=>none):=PS.weak oE fun _ _ _ ⟨_,_,_,_,z,_⟩=>by cases z
theorem oZ(i:Nat){px ap cp:Pos}(he:DE X e f)(hi:X.N[i]?=some x:=by rfl)(hv:Vis X.env.scope x:=by trivial)(hd:(x == ("__debug__" : Str))=false:=by decide)
  (IU:(x == ("__classdict__" : Str))=false:=by decide) (Ef:attributeBase (.Name x px) "append" X.env (eval (.Name x px) X.env)=eval (.Name x px) X.env:=by rfl)
  (hfew:((backTo cp (starEach [e] X.env)).all (fun x=>!x.1)&&(backToKw cp (keywordEach [] X.env)).all (fun x=>x.1.isSome)
   && decide ([e].length+([]:List Keyword).length+(if ([]:List Keyword).isEmpty then 0 else 1)<30))=true:=by rfl)
  (BU:(ap.endLine == cp.line)=true:=by rfl) (hs:starEach [e] X.env=(false,eval e X.env)::starEach [] X.env:=by rfl) (BS:(backTo cp (starEach [] X.env)).any (·.1)=false:=by rfl)
  (hsw:swapsWith (.Call (.Attribute (.Name x px) "append" ap) [e] [] cp) none pos.line X.env=pure false:=by rfl) :
  DS X (.Expr (.Call (.Attribute (.Name x px) "append" ap) [e] [] cp) pos) (Dm.bA i f):=
 PS.weak (m8 (v9 PySem.F.plainAttrs_list PySem.F.slot_list_append PySem.F.type_list_append iK (jO hi hv hd IU) (aa he af hs) Ef hfew BU hs BS) hsw) fun _ _ _=>FY
theorem BG(i:Nat){j:Expr}{fj:FE}{px sp:Pos}(hj:DE X j fj)(he:DE X e f)(hi:X.N[i]?=some x:=by rfl)(hv:Vis X.env.scope x:=by trivial)(hd:(x == ("__debug__" : Str))=false:=by decide)
  (IU:(x == ("__classdict__" : Str))=false:=by decide) (ha:∀ v,assign (.Subscript (.Name x px) j sp) X.env v=(do
   let ov <- holding [v] (eval (.Name x px) X.env)
   let iv <- holding [v,ov] (eval j X.env)
   standAt sp
   holding [v,ov,iv] (setItem ov iv v)
   release [v,ov,iv] []):=by intro _;rfl)
  (hs:swapsWithSole [.Subscript (.Name x px) j sp] e pos.line X.env=pure false:=by rfl) (hw:swappedStores [.Subscript (.Name x px) j sp] e X.env=pure none:=by rfl) (h1:(assignEach [.Subscript (.Name x px) j sp] X.env).map (·.2)=[assign (.Subscript (.Name x px) j sp) X.env]:=by rfl) :
  DS X (.Assign [.Subscript (.Name x px) j sp] e pos) (Dm.bB i fj f):=PS.weak (qJ he (Cw (jO hi hv hd IU) hj set_list ha) hs hw h1) fun _ _ _=>FZ
theorem IA(n:Nat)(hp:PassesOwn (model X.prog X.w) X.A X.env X.xe)(ht:DT X c t)(hb:DSs X body fs):DS X (.While c body [] pos) (Dm.whD t fs n):=PS.weak (vP hp ht hb) fun _ _ _=>zP
structure TG'(X:Cx)(tg:Expr)(is:List Nat)(bd:Dm.FB):Prop where
 ex:∃g,PG X tg g/\BD is g bd
theorem g_n(i:Nat){px:Pos}(hN:X.N.Nodup)(hi:X.N[i]?=some x:=by rfl)(hx:Loc X.env.scope x:=by trivial)(hf:X.fn x=true\/X.env.scope.names.lookup x=some .local:=by trivial) :
  TG' X (.Name x px) [i] (Dm.bN i):=⟨⟨_,m9 hN hi hx hf,sV i⟩⟩
theorem g_t{k:Nat}{tpos:Pos}(hc:X.calm=true)(hg:PGs X es (cY is))(hn:(assignEach es X.env).length=is.length:=by rfl)(hst:(assignEach es X.env).findIdx? (·.1)=none:=by rfl):TG' X (.Tuple es k tpos) is (Dm.bT is):=
 ⟨⟨_,nc hc hg hn hst,wz is rfl⟩⟩
theorem jm{tg it:Expr}{fi:Dm.FI}{bd:Dm.FB}(hp:PassesOwn (model X.prog X.w) X.A X.env X.xe)(hc:X.calm=true)(hi:DI X tg it fi)(hg:TG' X tg is bd)(hb:DSs X body fs)
  (hs:∀x,foldedSetIterable it X.env x=pure x:=by intro _;rfl):DS X (.For tg it body [] pos) (Dm.aY fi bd fs):=by
 obtain⟨g,h1,h2⟩:=hg.ex;exact PS.weak (Cy hp hc hi h1 hb hs) fun _ _ _=>F0 h2
end
end
noncomputable def tyName:Dat->String
 |.non => "NoneType"
 |.bl _ => "bool"
 |.int _ => "int"
 |.str _ => "str"
 |.tup _ => "tuple"
 |.lst _ => "list"
 |.dct _ _ => "dict"
 |.dcp _ _ => "dict"
 |.exc _ => "dict"
 |.cU _ _ => "dict"
 |.fn _ => "dict"
def rm(T:String)(p:Dat->Bool):Prop:=∀(K:Js) (d:Dat),L8 K (.type (tyName d)) (.type T)=some (p d)
theorem z9:rm "int" Dm.isI:=fun K d=>by cases d<;>rfl
theorem wK:rm "bool" Dm.isB:=fun K d=>by cases d<;>rfl
theorem jY:rm "list" Dm.isL:=fun K d=>by cases d<;>rfl
theorem kit_tuple:rm "tuple" Dm.isT:=fun K d=>by cases d<;>rfl
theorem wL{K:Js}{H:Hp}{v:V}{d:Dat}(r:Rep H v d)(nx:∀C,d≠.exc C/\d≠.fn C/\∀v,d≠.cU C v):g9 K H v (.type (tyName d)):=by
 cases r with
 |non=>exact .non
 |bl b=>exact .bl b
 |int i=>exact .int i
 |str s=>exact .str _
 |tup q _=>exact .tup q
 |lst q _=>
  rcases q with q | ⟨o,q⟩
  ·exact .lst q
  ·exact .frz q
 |dct q _ _=>exact .dK q
 |dcp q _ _=>exact .dT q
 |exc _=>exact absurd rfl (nx _).1
 |cU _ _=>exact absurd rfl ((nx _).2.2 _)
 |fn _=>exact absurd rfl (nx _).2.1
def Gf(K:Js)(T:String):List V->Hp->VK->Prop:=fun xs H Q=>∃x t b,xs=[x,.ty T]/\g9 K H x t/\L8 K t (.type T)=some b/\Q (.bl b) H
section
variable{X:Cx}{e:Expr}{f:FE}{p p2 pos:Pos}
theorem wM{T:String}:dg X (.builtin "isinstance") (Gf X.K T):=by intro cM s σ H xs us Q I r h;obtain⟨x,t,b,rfl,ty,e,q⟩:=h;obtain⟨u,u2,rfl,rx,ry⟩:=vals2 r;cases ry;exact uM I rx ty e fun tk=>⟨.bl b,H,I.tok tk,rfl,q⟩
theorem Gg{K:Js}{T:String}{p:Dat->Bool}(kp:rm T p){σ:L2.St}{H:Hp}{Q:VK}(h:tD (Dm.e1 (Dm.jB p) f) σ H Q):tCB (Gf K T) (oK (tD f) (oK (tC (.ty T)) zH)) σ H Q:=by
 obtain⟨H0,ρ,x,ρ',st,e,k⟩:=h;unfold Dm.e1 at e;split at e
 ·cases e
 rename_i x1 ρ1 e1;split at e
 ·cases e
 rename_i dx p1;have nx:∀C,dx≠.exc C/\dx≠.fn C/\∀v,dx≠.cU C v:=fun C=>⟨fun z=>(by subst z;cases e),fun z=>(by subst z;cases e),fun v z=>(by subst z;cases e)⟩;have ev:Dm.jB p dx=Dm.vB (p dx):=by cases dx<;>first | rfl | exact absurd rfl (nx _).1 | exact absurd rfl (nx _).2.1 | exact absurd rfl ((nx _).2.2 _)
 rw[ev]at e;dsimp only at e;cases e;refine⟨H0,ρ,x1,_,st,e1,fun v H1 Hb t1 r1=>?_⟩;exact⟨v,_,_,rfl,wL ((r1.look t1.st p1).full t1.st.same) nx,kp K dx,k _ H1 Hb t1 (Rep.bl _)⟩
theorem ir{T:String}{tn:Str}{p':Dat->Bool}(kp:rm T p')(hvT:bootBuiltins tn=some (.type T))(hgT:Gl X tn)(hmT:X.mg tn=none)(hg:Gl X "isinstance")(hm:X.mg "isinstance" = none)(h:DE X e f)
  (hn:tn ≠ "__name__" := by decide) (NV:(tn == ("__debug__" : Str))=false:=by decide)
  (he:starEach [e,.Name tn p2] X.env=(false,eval e X.env)::starEach [.Name tn p2] X.env:=by rfl) (En:(backTo pos (starEach [.Name tn p2] X.env)).any (·.1)=false:=by rfl) (he2:starEach [.Name tn p2] X.env=(false,eval (.Name tn p2) X.env)::starEach [] X.env:=by rfl) :
  DE X (.Call (.Name "isinstance" p) [e,.Name tn p2] [] pos) (Dm.e1 (Dm.jB p') f):=
 PE.weak (oN wM hg hm PyProof.Rows.boot_isinstance (jG h (jG (zy (v:=.ty T) hgT hmT hvT rfl hn NV) qP he2) he) (he:=he) (En:=En)) fun _ _ _=>Gg kp
theorem all_range(bs:List Bool):(Ka bs.length).all (fun i=>bs.getD i true)=bs.all id:=by
 rw[Lz,JZ,JZ];constructor
 ·intro h b hb;obtain⟨i,hi,rfl⟩:=List.mem_iff_getElem.mp hb;have:=h i (LF.mpr hi);rw[Kg,JX hi]at this;exact this
 ·intro h i hi;have hi:=LF.mp hi;rw[Kg,JX hi];exact h _ (List.getElem_mem hi)
theorem uW(hc:X.calm=true):dg X (.builtin "all") (fun xs H Q=>∃(a:Addr) (bs:List Bool),xs=[.ref a]/\Rd H a (.lst (bs.map V.bl))/\Q (.bl (bs.all id)) H):=by
 intro cM s σ H xs us Q I r h;obtain⟨a,bs,rfl,hq,q⟩:=h;obtain⟨u,rfl,rx⟩:=vals1 r;cases rx;obtain⟨z,its,n,rv,e⟩:=hq.ok I.hok;have hl:s.heap.IsList a its.toArray:=⟨_,e,rfl,_,rfl⟩
 have AY:=rv.length;rw[JM]at AY;have hax:a≠s.heap.objs.size:=J9 (JP e);refine PySem.call_all_walk (wpAny_pyIter_list hl ⟨s.heap.objs.size,_,_,_,_,_,fun i=>bs.getD i true,rfl,Walks.list (A:=X.A.in1) (I.ok.hd hc) s.heap.objs.size a hax its.toArray,⟨⟨_,J0 _ rfl,rfl,rfl⟩,hl.push _⟩,?_,fun h' tk hk=>?_⟩)
 ·intro i v s' Q' E' hv hQ';have hv':its[i]?=some v:=by simpa using hv
  have hi:i<bs.length:=by rw[AY];exact(JH.mp hv').1
  have hb:(bs.map V.bl)[i]?=some (V.bl bs[i]):=by rw[JT,JX hi];rfl
  obtain⟨u,hu,ru⟩:=rv.get hb;rw[hv']at hu;cases hu;cases ru;refine wpAny_truthy_bool ?_;have e2:bs.getD i true=bs[i]:=by rw[Kg,JX hi];rfl
  rw[<- e2];exact hQ'
 ·have e1:its.toArray.size=bs.length:=by rw[JR,AY]
  rw[e1,all_range];refine⟨.bl _,H,I.kept (t':=tk) fun b o eb=>hk b o ?_ (JN _ eb),rfl,q⟩;intro hm;have:b=s.heap.objs.size:=by simpa using hm
  exact absurd (JP eb) (by rw[this];exact Ko _)
end
section
variable{X:Cx}{a b c e:Expr}{f fa fb fc:FE}{p p2 pos:Pos}
section
variable{g h:Dat->Dat->Option RV}{σ:L2.St}{H:Hp}{Q:VK}
theorem s_{r r':R2}(o1:OpD r g)(o2:OpD r' h)(hh:tD (Dm.ao g h fa fb fc) σ H Q):qN r r' (tD fa) (tD fb) (tD fc) σ H Q:=by
 obtain⟨H0,ρ,x,ρ',st,e,k⟩:=hh;unfold Dm.ao at e;split at e
 ·cases e
 rename_i x1 ρ1 e1;split at e
 ·cases e
 rename_i y1 ρ2 e2;split at e
 ·cases e
 rename_i dx p1;split at e
 ·cases e
 rename_i dy p2;refine⟨H0,ρ,x1,ρ1,st,e1,fun v H1 Hb t1 r1=>⟨H1,ρ1,y1,ρ2,t1.st,e2,fun u H2 Hc t2 r2=>?_⟩⟩;split at e
 ·rename_i gz;refine o1 H2 Hc v u dx dy _ _ t2.st.same ((r1.mono t2).look t2.st p1) (r2.look t2.st p2) gz fun w H3 Hd g3 r3=>?_;refine⟨true,Rep.nB r3,?_⟩;rw[if_pos rfl];have t3:=t2.trans (.grow t2.st g3);have r2':=r2.mono (.grow t2.st g3);split at e
  ·cases e
  rename_i z ρ3 e3;split at e
  ·cases e
  rename_i dy' p3;split at e
  ·cases e
  rename_i dz p4;split at e
  ·cases e
  rename_i w2 hz;cases e;refine⟨H3,ρ2,z,_,t3.st,e3,fun w' H4 He t4 r4=>?_⟩;refine o2 H4 He u w' dy' dz w2 Q t4.st.same ((r2'.mono t4).look t4.st p3) (r4.look t4.st p4) hz fun w5 H5 Hf g5 r5=>?_;exact k w5 H5 Hf (t1.trans (t3.trans (t4.trans (.grow t4.st g5)))) ((r5.toV t4.st).early fun a n=>(t1.trans (t3.trans t4)).stp.gone n)
 ·rename_i gz;cases e;refine o1 H2 Hc v u dx dy _ _ t2.st.same ((r1.mono t2).look t2.st p1) (r2.look t2.st p2) gz fun w H3 Hd g3 r3=>?_;refine⟨false,Rep.nB r3,?_⟩;rw[if_neg J1];exact k _ H3 Hd (t1.trans (t2.trans (.grow t2.st g3))) (Rep.bl false)
 ·cases e
theorem z_{op op':CmpOp}{r r':R2}(o1:OpR X (compareOp op) r)(q1:OpD r g)(o2:OpR X (compareOp op') r')(q2:OpD r' h)(ha:DE X a fa)(hb:DE X b fb)(hc:DE X c fc)
  (hm:lastMarks [op,op'] [b,c]=false:=by with_unfolding_all rfl):DE X (.Compare a [op,op'] [b,c] pos) (Dm.ao g h fa fb fc):=PE.weak (vV o1 o2 ha hb hc hm) fun _ _ _=>s_ q1 q2
theorem wN(n d:Nat)(o:Option Int)(hd:d<=n):HT.sIx n d o=Dm.sIx n d o:=by
 cases o with
 |none=>rfl
 |some v=>
  unfold HT.sIx Dm.sIx
  first
   |rfl
   |(dsimp only;split<;>lia)
theorem uX{H0:Hp}{xs:List V}{ds:List Dat}(rs:aI H0 xs ds)(lo hi:Option Int):aI H0 (qS xs lo hi) (Dm.cut ds lo hi):=by unfold qS Dm.cut;rw[rs.length,wN _ _ _ (J8 _),wN _ _ _ (JL _)];exact(rs.drop _).take _
theorem tu{fo:Option FE}{H0 H:Hp}{ρ ρ':Dm.Env}{o:Option Int}{Q:Option Int->Hp->Prop}(st:aC H0 H σ ρ)(e:Dm.part fo ρ=some (o,ρ'))(k:∀H0' H',ESt σ ρ H0 H ρ' H0' H'->Q o H') :
  (match fo with | none=>ni | some f=>vY (tD f)) σ H Q:=by
 cases fo with
 |none=>cases e;exact k H0 H (.refl st)
 |some f=>
  unfold Dm.part at e;dsimp only at e;split at e
  ·rename_i i ρ1 e1;cases e;exact⟨H0,ρ,_,_,st,e1,fun v H1 Hb t1 r1=>⟨i,Rep.isInt r1,k H1 Hb t1⟩⟩
  ·cases e
noncomputable abbrev tOf(fo:Option FE):TO:=match fo with | none=>ni | some f=>vY (tD f)
theorem IB{K:Js}{lo hi:Option FE}(h:tD (Dm.eSl f lo hi) σ H Q):tSl (Fp K) (tD f) (tOf lo) (tOf hi) σ H Q:=by
 obtain⟨H0,ρ,x,ρ',st,e,k⟩:=h;unfold Dm.eSl at e;split at e
 ·cases e
 rename_i x1 ρ1 e1;split at e
 ·cases e
 rename_i l ρ2 e2;split at e
 ·cases e
 rename_i hh ρ3 e3;split at e
 ·rename_i ds p1;cases e;refine⟨H0,ρ,x1,ρ1,st,e1,fun v H1 Hb t1 r1=>?_⟩;refine tu t1.st e2 fun H2 Hc t2=>?_;refine tu t2.st e3 fun H3 Hd t3=>?_;have tt:=t1.trans (t2.trans t3);obtain⟨a,xs,rfl,qa,ra⟩:=b9 t3.st.same ((r1.mono (t2.trans t3)).look t3.st p1);refine⟨a,xs,rfl,.inl qa,fun q hq=>?_⟩;have g:=aP.l6 (o:=HO.lst (qS xs l hh)) t3.st.same hq;refine k _ _ _ (tt.trans (.grow t3.st g)) ⟨q,rfl,tt.stp.gone hq,t3.st.h_ hq,t3.st.same.free hq,_,aV,uX ra l hh⟩
 ·cases e
theorem Gh{lo hi:Option Expr}{flo fhi:Option FE}(h:DE X e f)(hl:PO X lo (tOf flo))(hh:PO X hi (tOf fhi)):DE X (.Subscript e (.Slice lo hi none p2) pos) (Dm.eSl f flo fhi):=PE.weak (vZ zM h hl hh) fun _ _ _=>IB
theorem o_n:PO X none (tOf none):=zJ
theorem o_s(h:DE X e f):PO X (some e) (tOf (some f)):=zK h
end
end
section
variable{X:Cx}{nm:List Str}{GP tg iter:Expr}{GQ:List Expr}{scope:Scope}{pos:Pos}{own:List Str}{fi:Dm.FI}{bd:Dm.FB}{is:List Nat}{t:FT}{f:FE}
noncomputable abbrev DTs(X:Cx)(GQ:List Expr)(t:FT):Prop:=PTs X GQ (tDT t)
theorem dY:DTs X [] Dm.az:=fun cM s σ H Q I h=>by obtain⟨H0,ρ,b,ρ',st,e,k⟩:=h;cases e;exact zR cM s σ H Q I (k H0 H (.refl st))
theorem wO{c:Expr}(h:DT X c t):DTs X [c] t:=zS h
structure TGc(X:Cx)(nm:List Str)(scope:Scope)(own:List Str)(tg:Expr)(is:List Nat)(bd:Dm.FB):Prop where
 ex:∃g,(∀cl C s H fp,PG (bG X nm scope own cl C s H fp) tg g)/\BD is g bd
theorem c_n(i:Nat){x:Str}{px:Pos}(hN:(nm++own).Nodup)(hi:(nm++own)[i]?=some x)(hx:(relabel scope X.env).names.lookup x=some .local):TGc X nm scope own (.Name x px) [i] (Dm.bN i):=
 ⟨⟨_,fun cl C s H fp=>m9 (X:=bG X nm scope own cl C s H fp) hN hi (.inl hx) (.inr hx),sV i⟩⟩
theorem c_t{es:List Expr}{k:Nat}{tpos:Pos}(hc:X.calm=true)(hg:∀cl C s H fp,PGs (bG X nm scope own cl C s H fp) es (cY is))(hn:∀cl C,(assignEach es (compEnvC scope cl C X.env)).length=is.length:=by intro _ _;rfl)
  (hst:∀cl C,(assignEach es (compEnvC scope cl C X.env)).findIdx? (·.1)=none:=by intro _ _;rfl):TGc X nm scope own (.Tuple es k tpos) is (Dm.bT is):=
 ⟨⟨_,fun cl C s H fp=>nc (X:=bG X nm scope own cl C s H fp) hc (hg cl C s H fp) (hn cl C) (hst cl C),wz is rfl⟩⟩
theorem Dq(hc:X.calm=true)(S:dD X nm scope)(hi:DI X tg iter fi)(hg:TGc X nm scope own tg is bd)(ht:∀cl C s H fp,DTs (bG X nm scope own cl C s H fp) GQ t)(he:∀cl C s H fp,DE (bG X nm scope own cl C s H fp) GP f)
  (hl:∀i∈is,X.N.length<=i) (hs:∀x,foldedSetIterable iter X.env x=pure x:=by intro _;rfl):DE X (.ListComp GP [⟨tg,iter,GQ,0⟩] scope pos) (Dm.bS fi own.length bd t f):=by
 obtain⟨g,h1,h2⟩:=hg.ex;intro cM s σ H Q I h;exact sW hc S hi h1 ht he hs cM s σ H Q I (qZ h2 (fun i hi=>by rw[I.len];exact hl i hi) h)
theorem Dr(j:Nat){y:Str}{py GX:Pos}(hN:X.N.Nodup)(hc:X.calm=true)(S:dD X nm scope)(hi:DI X tg iter fi)(hg:TGc X nm scope own tg is bd)(ht:∀cl C s H fp,DTs (bG X nm scope own cl C s H fp) GQ t)(he:∀cl C s H fp,DE (bG X nm scope own cl C s H fp) GP f)
  (hl:∀i∈is,X.N.length<=i) (hj:X.N[j]?=some y:=by rfl) (hy:Loc X.env.scope y:=by trivial)
  (hsw:swapsWith (.ListComp GP [⟨tg,iter,GQ,0⟩] scope pos) (some (.Name y py)) GX.line X.env=pure true:=by rfl) (hs:∀x,foldedSetIterable iter X.env x=pure x:=by intro _;rfl)
  (hf:X.fn y=true\/X.env.scope.names.lookup y=some .local:=by trivial):DS X (.Assign [.Name y py] (.ListComp GP [⟨tg,iter,GQ,0⟩] scope pos) GX) (Dm.sA j (Dm.bS fi own.length bd t f)):=by
 obtain⟨g,h1,h2⟩:=hg.ex;intro cM s σ H D I h;exact jj hN hj hy hc S hi h1 ht he hsw hs hf cM s σ H D I (qZ h2 (fun i hi=>by rw[I.len];exact hl i hi) (wo h))
end
theorem jZ{H0:Hp}:∀{ds:List Dat} {bs:List Bool} {vs:List V},aI H0 vs ds->Dm.bools ds=some bs->vs=bs.map V.bl
 |[],bs,vs,r,e=>by cases r;cases e;rfl
 |.bl b::ds,bs,vs,r,e=>by
  cases r with
  |cons r rs=>
   unfold Dm.bools at e;cases q:Dm.bools ds with
   |none=>rw[q]at e;cases e
   |some cs=>rw[q]at e;cases e;cases Rep.nB r;rw[jZ rs q];rfl
 |.non::ds,bs,vs,r,e=>by cases e
 |.int _::ds,bs,vs,r,e=>by cases e
 |.str _::ds,bs,vs,r,e=>by cases e
 |.tup _::ds,bs,vs,r,e=>by cases e
 |.lst _::ds,bs,vs,r,e=>by cases e
 |.dct _ _::ds,bs,vs,r,e=>by cases e
 |.dcp _ _::ds,bs,vs,r,e=>by cases e
theorem Dt:CallD (fun xs H Q=>∃(a:Addr) (bs:List Bool),xs=[.ref a]/\Rd H a (.lst (bs.map V.bl))/\Q (.bl (bs.all id)) H) Dm.oR:=by
 intro H0 H vs ds z Q s rs e k;unfold Dm.oR at e;split at e
 ·split at e
  ·rename_i bs hb;cases e;cases rs with
   |cons r rr=>cases rr;obtain⟨a,us,rfl,qa,ra⟩:=b9 s r;have:=jZ ra hb;subst this;exact⟨a,bs,rfl,qa,k _ H0 H (aP.refl s) (.bl _)⟩
  ·cases e
 ·cases e
theorem Aa:CallD (fun xs H Q=>∃a b c:Int,xs=[.int a,.int b,.int c]/\Q (.int (if b<a then (if c<b then c else b) else (if c<a then c else a))) H) Dm.aO:=by
 intro H0 H vs ds z Q s rs e k;unfold Dm.aO at e;split at e
 ·cases e;cases rs with
  |cons r rr=>
   cases rr with
   |cons r' rr=>
    cases rr with
    |cons r'' rr=>cases rr;cases aB r;cases aB r';cases aB r'';exact⟨_,_,_,rfl,k _ H0 H (aP.refl s) (.int _)⟩
 ·cases e
theorem Du:CallD (fun xs H Q=>(∃i,xs=[.int i]/\Q (.int i) H)\/∃k,xs=[.bl k]/\Q (.int (if k then 1 else 0)) H) Dm.bD:=by
 intro H0 H vs ds z Q s rs e k;unfold Dm.bD at e;split at e
 ·cases e;cases rs with
  |cons r rr=>cases rr;cases aB r;exact .inl ⟨_,rfl,k _ H0 H (aP.refl s) (.int _)⟩
 ·cases e;cases rs with
  |cons r rr=>cases rr;cases zU r;exact .inr ⟨_,rfl,k _ H0 H (aP.refl s) (.int _)⟩
 ·cases e
section
variable{X:Cx}{a b c e:Expr}{f:FE}{fs:List FE}{p p2 pos:Pos}
theorem vals3{x y z:V}{us:List Value}(r:Vals [x,y,z] us):∃u v w,us=[u,v,w]/\RelV x u/\RelV y v/\RelV z w:=by
 cases r with
 |cons r1 r=>
  cases r with
  |cons r2 r=>
   cases r with
   |cons r3 r=>cases r;exact⟨_,_,_,rfl,r1,r2,r3⟩
theorem uY(hc:X.calm=true):dg X (.builtin "min") (fun xs H Q=>∃a b c:Int,xs=[.int a,.int b,.int c]/\Q (.int (if b<a then (if c<b then c else b) else (if c<a then c else a))) H):=by
 intro cM s σ H xs us Q I r h;obtain⟨i,j,l,rfl,q⟩:=h;obtain⟨u,v,w',rfl,⟨t,rfl⟩,⟨t',rfl⟩,⟨t'',rfl⟩⟩:=vals3 r;refine PySem.min_three_ints (I.ok.hd hc) fun h' tk k=>⟨_,H,I.kept k,?_,q⟩;by_cases h1:j<i
 ·rw[if_pos h1,if_pos h1];by_cases h2:l<j
  ·rw[if_pos h2,if_pos h2];exact⟨_,rfl⟩
  ·rw[if_neg h2,if_neg h2];exact⟨_,rfl⟩
 ·rw[if_neg h1,if_neg h1];by_cases h2:l<i
  ·rw[if_pos h2,if_pos h2];exact⟨_,rfl⟩
  ·rw[if_neg h2,if_neg h2];exact⟨_,rfl⟩
theorem wQ(hc:X.calm=true)(hg:Gl X "all")(hm:X.mg "all" = none)(ha:DA X [e] fs)(he:starEach [e] X.env=[(false,eval e X.env)]:=by rfl)(En:(backTo pos (starEach [] X.env)).any (·.1)=false:=by rfl) :
  DE X (.Call (.Name "all" p) [e] [] pos) (Dm.eB Dm.oR fs):=uV (uW hc) Dt (by rfl) hg hm ha (he:=he) (En:=En)
theorem Dv(hc:X.calm=true)(hg:Gl X "min")(hm:X.mg "min" = none)(ha:DA X [a,b,c] fs)(he:starEach [a,b,c] X.env=(false,eval a X.env)::starEach [b,c] X.env:=by rfl)(En:(backTo pos (starEach [b,c] X.env)).any (·.1)=false:=by rfl) :
  DE X (.Call (.Name "min" p) [a,b,c] [] pos) (Dm.eB Dm.aO fs):=uV (uY hc) Aa (by rfl) hg hm ha (he:=he) (En:=En)
theorem Gi(hg:Gl X "int")(hm:X.mg "int" = none)(ha:DA X [e] fs)(he:starEach [e] X.env=[(false,eval e X.env)]:=by rfl)(En:(backTo pos (starEach [] X.env)).any (·.1)=false:=by rfl) :
  DE X (.Call (.Name "int" p) [e] [] pos) (Dm.eB Dm.bD fs):=z8 uK Du (by rfl) hg hm ha (he:=he) (En:=En)
def BH:V->List V->Hp->VK->Prop:=fun x vs H Q=>∃i:Int,x=.int i/\vs=[]/\Q (.int (Dm.bits i)) H
theorem Ab:MtR X "int.bit_length" BH:=by
 intro cM s σ H x xs v us Q I rx rs h;obtain⟨i,rfl,rfl,q⟩:=h;cases rs;obtain⟨t,rfl⟩:=rx;refine PyProof.Rows.call_int_bit_length ?_;refine⟨.int (Dm.bits i),H,I.tok _,⟨s.toks,?_⟩,q⟩
 congr 1
 unfold Builtin.Int.intBits Dm.bits;by_cases h0:i=0
 ·subst h0;rfl
 ·have:(i == 0)=false:=by simpa using h0
  rw[if_neg h0,this];rfl
theorem Dw{K:Js}{σ:L2.St}{H:Hp}{Q:VK}(h:tD (Dm.e1 Dm.aH f) σ H Q):Fq K "int" BH (tD f) σ H Q:=by
 obtain⟨H0,ρ,x,ρ',st,e,k⟩:=h;unfold Dm.e1 at e;split at e
 ·cases e
 rename_i x1 ρ1 e1;split at e
 ·cases e
 rename_i dx p1;split at e
 ·cases e
 rename_i z gz;unfold Dm.aH at gz;split at gz
 ·cases gz;cases e;refine⟨H0,ρ,x1,_,st,e1,fun v H1 Hb t1 r1=>?_⟩;cases aB (r1.look t1.st p1);exact⟨rfl,_,rfl,rfl,k _ H1 Hb t1 (Rep.int _)⟩
 ·cases gz
theorem Dy{ap cp:Pos}(h:DE X e f)(Ef:attributeBase e "bit_length" X.env (eval e X.env)=eval e X.env:=by rfl)(BU:(ap.endLine == cp.line)=true:=by rfl) :
  DE X (.Call (.Attribute e "bit_length" ap) [] [] cp) (Dm.e1 Dm.aH f):=
 PE.weak (CS PySem.F.plainAttrs_int PySem.F.slot_int_bit_length PySem.F.type_int_bit_length Ab h Ef BU) fun _ _ _=>Dw
end
noncomputable def cO(sc:Scope):List Str->List Str->Bool
 |[],[]=>true
 |x::N,y::nm=>(x == y||(sc.names.lookup y).isNone)&&cO sc N nm
 |_,_=>false
theorem cO.len{sc:Scope}:∀{N nm:List Str},cO sc N nm=true->nm.length=N.length
 |[],[],_=>rfl
 |[],_::_,h=>by cases h
 |_::_,[],h=>by cases h
 |x::N,y::nm,h=>by rw[cO,JY]at h;rw[gp,gp,cO.len h.2]
theorem cO.at{sc:Scope}:∀{N nm:List Str},cO sc N nm=true->∀(i:Nat) (x:Str),nm[i]?=some x->N[i]?=some x\/sc.names.lookup x=none
 |[],[],_,i,x,e=>by simp at e
 |[],_::_,h,_,_,_=>by cases h
 |_::_,[],h,_,_,_=>by cases h
 |x::N,y::nm,h,0,z,e=>by
  rw[cO,JY,L3]at h;simp at e;subst e;rcases h.1 with q | q
  ·have:x=y:=by simpa using q
   subst this;exact .inl rfl
  ·exact .inr (by simpa using q)
 |x::N,y::nm,h,i+1,z,e=>by rw[cO,JY]at h;rw[gV]at e ⊢;exact cO.at h.2 i z e
noncomputable def mK(osc:Scope)(N nm:List Str)(sc:Scope):Bool:=
 sc.names.all (fun y=>y.2 != .cell)&&sc.names.all (fun y=>y.2 != .local||sc.names.lookup y.1 == some .local) &&
 sc.names.all (fun y=>y.2 != .free||(osc.names.lookup y.1 == some .cell||osc.names.lookup y.1 == some .free))&&nm.all (fun x=>sc.names.lookup x != some .local)&&cO sc N nm
theorem dD.of{X:Cx}{nm:List Str}{scope:Scope}(h:mK X.env.scope X.N nm scope=true)(hk:scope.kind=.function):dD X nm scope:=by
 unfold mK at h;simp only[JY,JZ]at h;obtain⟨⟨⟨⟨h1,h2⟩,h3⟩,h4⟩,h5⟩:=h;refine⟨hk,fun y hy=>?_,fun y hy hl=>?_,fun y hy hf=>?_,fun x hx=>?_,cO.len h5,cO.at h5⟩
 ·have:=h1 y hy;simpa using this
 ·have:=h2 y hy;rw[hl]at this
  simpa using this
 ·have:=h3 y hy;rw[hf]at this;have:(X.env.scope.names.lookup y.1 == some .cell||X.env.scope.names.lookup y.1 == some .free)=true:=by simpa using this
  rw[L3,beq_iff_eq,beq_iff_eq]at this;exact this
 ·have:=h4 x hx;simpa using this
section
variable{X:Cx}{GP tg iter:Expr}{GQ:List Expr}{scope:Scope}{pos:Pos}{fi:Dm.FI}{bd:Dm.FB}{is:List Nat}{t:FT}{f:FE}
theorem tw{l:List Nat}{n:Nat}(h:(l.all fun i=>decide (n<=i))=true):∀i∈l,n<=i:=fun i hi=>of_decide_eq_true (JZ.mp h i hi)
theorem Ac(nm own:List Str)(hg:TGc X nm scope own tg is bd)(hi:DI X tg iter fi)(ht:∀cl C s H fp,DTs (bG X nm scope own cl C s H fp) GQ t)(he:∀cl C s H fp,DE (bG X nm scope own cl C s H fp) GP f)
  (hc:X.calm=true:=by rfl) (hk:scope.kind=.function:=by rfl) (hS:mK X.env.scope X.N nm scope=true:=by rfl) (hl:(is.all fun i=>decide (X.N.length<=i))=true:=by rfl) (hs:∀x,foldedSetIterable iter X.env x=pure x:=by intro _;rfl) :
  DE X (.ListComp GP [⟨tg,iter,GQ,0⟩] scope pos) (Dm.bS fi own.length bd t f):=Dq hc (dD.of hS hk) hi hg ht he (tw hl) hs
theorem Gj(j:Nat)(nm own:List Str){y:Str}{py GX:Pos}(hN:X.N.Nodup)(hg:TGc X nm scope own tg is bd)(hi:DI X tg iter fi)(ht:∀cl C s H fp,DTs (bG X nm scope own cl C s H fp) GQ t)(he:∀cl C s H fp,DE (bG X nm scope own cl C s H fp) GP f)
  (hc:X.calm=true:=by rfl) (hk:scope.kind=.function:=by rfl) (hS:mK X.env.scope X.N nm scope=true:=by rfl) (hl:(is.all fun i=>decide (X.N.length<=i))=true:=by rfl) (hj:X.N[j]?=some y:=by rfl) (hy:Loc X.env.scope y:=by trivial)
  (hsw:swapsWith (.ListComp GP [⟨tg,iter,GQ,0⟩] scope pos) (some (.Name y py)) GX.line X.env=pure true:=by rfl) (hs:∀x,foldedSetIterable iter X.env x=pure x:=by intro _;rfl)
  (hf:X.fn y=true\/X.env.scope.names.lookup y=some .local:=by trivial):DS X (.Assign [.Name y py] (.ListComp GP [⟨tg,iter,GQ,0⟩] scope pos) GX) (Dm.sA j (Dm.bS fi own.length bd t f)):=
 Dr j hN hc (dD.of hS hk) hi hg ht he (tw hl) hj hy hsw hs hf
end
section
variable{f:FE}{a:Addr}{X:Cx}{H:Hp}
theorem PI.or{tg it:Expr}{t t':TI}(h:PI X tg it t)(h':PI X tg it t'):PI X tg it (fun σ H R=>t σ H R\/t' σ H R):=fun cM s σ H R I q=>q.elim (h cM s σ H R I) (h' cM s σ H R I)
theorem Gk{K:Js}{σ:L2.St}{R:It->Hp->Prop}(h:tDI (Dm.iS f) σ H R):oG K (tD f) σ H R\/vQ K (tD f) σ H R:=by
 obtain⟨H0,ρ,ys,ρ',st,e,k⟩:=h;unfold Dm.iS at e;split at e
 ·cases e
 rename_i x ρ1 e1;split at e
 ·rename_i ds ρ2 e2;cases e;exact .inl (Il ⟨H0,ρ,_,_,st,by unfold Dm.iL;rw[e1];dsimp only;rw[e2],k⟩)
 ·rename_i ds ρ2 e2;cases e;exact .inr (Im ⟨H0,ρ,_,_,st,by unfold Dm.iT;rw[e1];dsimp only;rw[e2],k⟩)
 ·cases e
theorem i_S{tg e:Expr}(h:DE X e f):DI X tg e (Dm.iS f):=PI.weak (PI.or (sM h) (vR h)) fun _ _ _=>Gk
noncomputable def wR(K:Js):Bool:=K.all fun p=>match p.2.cls with | .type n=>n != "list" | _=>true
theorem lookup_mem{o:Obj}:∀{K:List (Addr×Obj)},K.lookup a=some o->(a,o)∈K
 |[],h=>by cases h
 |(b,x)::r,h=>by
  rw[Kf]at h;cases q:a == b with
  |true=>
   rw[q]at h;cases h;have:a=b:=by simpa using q
   rw[this];exact JJ
  |false=>rw[q]at h;exact JK _ (lookup_mem h)
theorem Dz{f:List Dat->Option RV}{K:Js}{ns:List Int}{E:XK}(hf:f [.lst (ns.map Dat.int)]=some (.val (.bl true)))(hK:wR K=true)(hS:SqL K H a (ns.map V.int)) :
  spD f [.ref a] H (fun v _=>v=.bl true) E:=by
 have hq:Rd H a (.lst (ns.map V.int)):=by
  rcases hS with h | ⟨o,its,n,hk,hc,_⟩
  ·exact h
  ·have:=JZ.mp hK _ (lookup_mem hk);dsimp only at this;rw[hc]at this;exact absurd this (by decide)
 have hr:∀ns:List Int,aI H (ns.map V.int) (ns.map Dat.int):=fun ns=>by
  induction ns with
  |nil=>exact .nil
  |cons n ns ih=>exact .cons (.int n) ih
 exact⟨H,_,_,au.refl _,.cons (.lst hq (hr ns)) .nil,hf,fun v H0' H' _ r=>Rep.nB r⟩
end
end Br
namespace Dm
noncomputable def iRd(a b c:FE):FI:=fun ρ=>match a ρ with
 | some (.val (.int i),ρ1)=>(match b ρ1 with
  | some (.val (.int j),ρ2)=>(match c ρ2 with
   |some (.val (.int k),ρ3)=>if k=-1/\j<=BIG/\-BIG<=j/\i<=BIG/\-BIG<=i then some (downs i (i-j).toNat,ρ3) else none
   |_=>none)
  |_=>none)
 |_=>none
noncomputable def uZ(a:FE):FI:=fun ρ=>match a ρ with
 |none=>none
 |some (x,ρ1)=>match tk ρ1 x with
  |some (.lst ds,ρ2)=>some (ds.reverse,ρ2)
  |_=>none
noncomputable def iu:Nat->List Dat->List Dat
 |_,[]=>[]
 |i,d::ds=>.tup [.int (i:Nat),d]::iu (i+1) ds
noncomputable def iEn(a:FE):FI:=fun ρ=>match a ρ with
 |none=>none
 |some (x,ρ1)=>match tk ρ1 x with
  |some (.lst ds,ρ2)=>some (iu 0 ds,ρ2)
  |_=>none
noncomputable def iV(d:Dat):Option RV:=match d with
 |.lst ds=>some (.new (.lst ds.reverse))
 |_=>none
noncomputable def eW:List Dat->Option RV
 |[.int j]=>if j<=1000000/\-1000000<=j then some (.new (.lst (ups 0 j.toNat))) else none
 |_=>none
end Dm
namespace Br
open PySem PySem.Spec PyProof.Rows L2
theorem mL{X:Cx}{cM:List (Addr×Obj)}{σ:L2.St}{H:Hp}{s:Shared}{h':Heap}{t':Nat}{fp:List Addr}{p:Addr}{o:HO}(I:Inv X cM σ H s)(hf:∀b∈fp,lZ X cM H b)
  (k:∀b u,b∉fp->s.heap.get? b=some u->h'.get? b=some u) (hp:s.heap.objs.size<=p) (new:bX X.prog X.w (upd H p o) h' p o):Inv X cM σ (upd H p o) { s with heap:=h',toks:=t' }:=by
 have hn:H p=none:=I.hok.fresh hp;have nf:∀b u,H b=some u->b∉fp:=fun b u e z=>by rw[(hf b z).1]at e;cases e
 have nL:X.env.locals∉fp:=fun z=>(hf _ z).2.1 rfl;refine I.step (g':=s.gens) (d':=s.drawn) (ch:=fp) (fun b hb=>?_) (fun b u _ _ hc e _=>k b u hc e) (fun b u _ _ hc e _=>⟨u.slots,k b u hc e⟩)
  (fun b u _ e n=>by rw[aK (J9 (JS (JP e) hp))];exact n) (fun b u hc e=>⟨u,k b u hc e⟩)
  (fun b xs q=>by rw[aK (aM q hn)];exact q) (fun b u xs q=>by rw[aK (aM q hn)];exact q) (fun b _ _ _ q=>by rw[aK (aM q hn)];exact q) (fun m hm=>?_) (fun b u e=>?_) I.bare
 ·obtain⟨f0,f1,f2,f3,f4,f5⟩:=hf b hb;exact⟨f3,f1,f4,f5⟩
 ·obtain⟨o,es,ep,ho,r⟩:=hm;exact⟨o,es,ep,k _ o nL ho,r⟩
 ·by_cases hb:b=p
  ·subst hb;rw[aV]at e;cases e;exact new
  ·rw[aK hb]at e;refine(I.hok b u e).stay (fun c v hc q=>k c v ?_ q) (fun c q=>by rw[aK (aM q hn)];exact q) (fun c _ _ q=>by rw[aK (aM q hn)];exact q) fun c xs q=>by rw[aK (aM q hn)];exact q
   rcases hc with z | z
   ·rw[z];exact nf b u e
   ·exact nf c _ z
noncomputable def Itv(K:Js)(a:Addr)(n:Nat):It:=
 ⟨fun i H=>∃xs x,SqL K H a xs/\xs.length=n/\xs.reverse[i]?=some x,fun i H x H'=>H'=H/\∀xs,SqL K H a xs->xs.reverse[i]?=some x,fun i H=>n<=i⟩
theorem wU{P:Program}{w:World}{K:Js}{tg:Expr}(a it:Addr)(n:Nat):Turn P w K tg (Itv K a n) [it] it (fun i h=>i<=n/\h.IsRevIter it a ((n:Int)-1-(i:Nat))) where
 mem:=by simp
 obj:=fun i h st b hb=>by
  have e:b=it:=by simpa using hb
  subst e;obtain⟨_,o,e,c,d⟩:=st;exact⟨o,e,fun v z=>by rw[d]at z;cases z⟩
 keep:=fun i h h' st k=>⟨st.1,st.2.at fun o e=>k it (by simp) o e⟩
 item:=by
  intro X hP hw hK hc i cM s σ H E I hf st hg;subst hP hw hK;obtain⟨xs,x,hq,hl,hx⟩:=hg;obtain⟨its,rv,p,hz⟩:=I.list hq;have hi:i<n:=by have:=(JH.mp hx).1;rw[KU,hl]at this;exact this
  rw[Lu (by lia),hl]at hx;obtain⟨u,hu,ru⟩:=rv.get hx;obtain⟨f0,f1,f2,f3,f4,f5⟩:=hf it (by simp);obtain⟨_,st⟩:=st;have ei:((n:Int)-1-(i:Nat))=((n-1-i:Nat):Int):=by lia
  rw[ei]at st;refine wpAny_pyNext_rev_item st p.isList (x:=u) (by simpa using hu) fun h' st' sb=>?_;have ej:((n-1-i:Nat):Int)-1=(n:Int)-1-((i+1:Nat):Int):=by lia
  rw[ej]at st';have I1:Inv X cM σ H { s with heap:=h' }:=I.turned (t':=s.toks) (fun b o hb e=>(sb.2 b hb).trans e) f0 f1 f3 f4 f5;obtain⟨o,e,c,d⟩:=id st';refine⟨u,rfl,mq (s:={ s with heap:=h' }) e c d (by decide) ⟨x,H,I1,ru,⟨rfl,fun ys hy=>?_⟩,⟨hi,st'⟩,fun b hb=>(hf b hb).1⟩⟩;rw[I.eZ hy hq,Lu (by lia),hl];exact hx
 done:=by
  intro X hP hw hK hc i cM s σ H E I hf st hg;subst hP hw hK;obtain⟨f0,f1,f2,f3,f4,f5⟩:=hf it (by simp);obtain⟨h1,st⟩:=st;have h2:n<=i:=hg;have ei:((n:Int)-1-(i:Nat))=-1:=by lia
  rw[ei]at st;exact wpAny_pyNext_rev_end (I.ok.hd hc) st fun h' eb=>⟨rfl,I.turned (t':=s.toks) (fun b o hb e=>eb b o hb e) f0 f1 f3 f4 f5⟩
 self:=fun _ _ _ _ _ st h=>wpAny_pyIter_revIter st.2 h
def BI(K:Js)(tl:TE):TI:=fun σ H R=>tl σ H fun x H1=>∃a xs,x=.ref a/\SqL K H1 a xs/\R (Itv K a xs.length) H1
section
variable{X:Cx}{tg l:Expr}{tl:TE}{p pos:Pos}
theorem wV{Q:Value->Shared->Prop}{Qx:VK}{cM:List (Addr×Obj)}{s:Shared}{σ:L2.St}{H:Hp}(hg:Gl X "reversed")(hm:X.mg "reversed" = none)(hl:PE X l tl)(hs:starEach [l] X.env=[(false,eval l X.env)])(I:Inv X cM σ H s)(h:tl σ H Qx)
  (k:∀x H1 s1,Inv X cM σ H1 s1->Qx x H1->∃a xs,x=.ref a/\SqL X.K H1 a xs/\∀its:List Value,Vals xs its->PlainL s1.heap a its.toArray->xs.length<=sizeLine->Q (.ref s1.heap.objs.size) { s1 with heap:=s1.heap.push (revObj a ((its.toArray.size:Int)-1)) }) :
  wpAny (model X.prog X.w) X.A (eval (.Call (.Name "reversed" p) [l] [] pos) X.env) Q X.xe s:=by
 refine Call_ (cX I hg hm boot_reversed (J2 (spliced_more ?_ (by rw[hs];rfl)) (by rw[hs];rfl) rfl));refine thn (hl cM s σ H _ I h) fun v s1 ⟨x,H1,I1,r1,q1⟩=>?_;obtain⟨a,xs,e,hq,q⟩:=k x H1 s1 I1 q1;subst e;cases r1;obtain⟨its,rv,pl,hz⟩:=I1.list hq;refine K0 (call_reversed_list pl.isList (q its rv pl hz))
theorem DB(hg:Gl X "reversed")(hm:X.mg "reversed" = none)(hl:PE X l tl)(hs:starEach [l] X.env=[(false,eval l X.env)]:=by rfl):PI X tg (.Call (.Name "reversed" p) [l] [] pos) (BI X.K tl):=by
 intro cM s σ H R I h;refine wV hg hm hl hs I h fun x H1 s1 I1 q1=>?_;obtain⟨a,xs,e,hq,q⟩:=q1;refine⟨a,xs,e,hq,fun its rv pl hz=>?_⟩;have hn:(its.toArray.size:Int)=((xs.length:Nat):Int):=by rw[JR,rv.length]
 have st:({ s1 with heap:=s1.heap.push (revObj a ((its.toArray.size:Int)-1)) }:Shared).heap.IsRevIter s1.heap.objs.size a (((xs.length:Nat):Int)-1-((0:Nat):Int)):=⟨_,J0 _ rfl,rfl,by rw[hn];simp[revObj]⟩
 refine wpAny_pyIter_revIter st ?_;refine⟨s1.heap.objs.size,[s1.heap.objs.size],_,_,H1,rfl,I1.kept (t':=s1.toks) fun b o e=>JN _ e,wU a _ xs.length,⟨J8 _,st⟩,fun b hb=>?_,q⟩;have e:b=s1.heap.objs.size:=by simpa using hb
 subst e;exact I1.oF (JL _) (I1.hok.fresh (JL _))
end
noncomputable def Itd(hi:Int)(n:Nat):It:=⟨fun i _=>i<n,fun i H x H'=>H'=H/\x=.int (hi-i),fun i _=>n<=i⟩
theorem u5{P:Program}{w:World}{K:Js}{tg:Expr}(it:Addr)(lo:Int)(n:Nat):Turn P w K tg (Itd lo n) [it] it (fun i h=>IsRangeIter h it (lo+(i:Nat)*(-1)) ((n:Int)-(i:Nat)) (-1)) where
 mem:=by simp
 obj:=fun i h st b hb=>by
  have e:b=it:=by simpa using hb
  subst e;exact ⟨_,st,fun v z=>by have z':L4 _=LH v:=z;cases z'⟩
 keep:=fun i h h' st k=>k it (by simp) _ st
 item:=by
  intro X hP hw hK hc i cM s σ H E I hf st hg;subst hP hw hK;obtain⟨f0,f1,f2,f3,f4,f5⟩:=hf it (by simp);have W:=Walks.range (prog:=X.prog) (w:=X.w) (I.ok.hd hc) it lo (-1) n;refine W.item i s _ _ hg st fun v h' tk hv st' kk=>?_;obtain⟨t,rfl⟩:=hv;have I1:Inv X cM σ H { s with heap:=h',toks:=tk }:=I.turned (fun b o hb e=>kk b o (by simpa using hb) e) f0 f1 f3 f4 f5;refine⟨_,rfl,mq (s:={ s with heap:=h',toks:=tk }) (n := "range_iterator") st' rfl rfl (by decide) ⟨.int (lo-i),H,I1,⟨t,?_⟩,⟨rfl,rfl⟩,st',fun b hb=>(hf b hb).1⟩⟩;have:lo+(i:Int)*(-1)=lo-i:=by lia
  rw[this]
 done:=by intro X hP hw hK hc i cM s σ H E I hf st hg;subst hP hw hK;obtain⟨f0,f1,f2,f3,f4,f5⟩:=hf it (by simp);exact wpAny_pyNext_range_end (I.ok.hd hc) st (by have:n<=i:=hg;lia) fun h' eb=>⟨rfl,I.turned (t':=s.toks) (fun b o hb e=>eb b o hb e) f0 f1 f3 f4 f5⟩
 self:=fun _ _ _ _ _ st h=>wpAny_pyIter_rangeiter st h
theorem rangeSize_down(a b:Int):KJ a b (-1)=if b<a then a-b else 0:=by
 unfold KJ;simp only[show ¬((-1:Int)>0) by decide,if_false];have:(-(-1:Int))=1:=by decide
 rw[this];simp only[Int.ediv_one];split<;>lia
theorem small_down{a b:Int}(ha:-(2 ^ 61)<=a)(ha':a<2 ^ 61)(hb:-(2 ^ 61)<=b)(hb':b<2 ^ 61):Builtin.Range.small a b (-1)=true:=by unfold Builtin.Range.small;rw[rangeSize_down];simp only[Builtin.Range.rangeFitsLong,JY,L3,decide_eq_true_eq,beq_iff_eq,show ¬((-1:Int)>0) by decide,if_false];split<;>lia
section
variable{X:Cx}{tg:Expr}
def BJ(ta:TA):TI:=fun σ H R=>ta σ H fun vs H1=>∃i j:Int,vs=[.int i,.int j,.int (-1)]/\(-(2 ^ 61)<=i/\i<2 ^ 61/\-(2 ^ 61)<=j/\j<2 ^ 61)/\R (Itd i (i-j).toNat) H1
theorem u6{a b c:Expr}{ta:TA}{p pos:Pos}(hg:Gl X "range")(hm:X.mg "range" = none)(ha:PA X [a,b,c] ta)(hs:starEach [a,b,c] X.env=(false,eval a X.env)::starEach [b,c] X.env:=by rfl)(hs2:(backTo pos (starEach [b,c] X.env)).any (·.1)=false:=by rfl) :
  PI X tg (.Call (.Name "range" p) [a,b,c] [] pos) (BJ ta):=by
 intro cM s σ H R I h;refine Call_ (cX I hg hm boot_range (J2 (thn (ha pos cM s σ H _ I h) fun us s1 ⟨vs,H1,I1,r1,q1⟩=>?_) hs hs2));obtain⟨i,j,e,⟨q1,q2,q3,q4⟩,q⟩:=q1;subst e;cases r1 with
 |cons r rr=>
  cases rr with
  |cons r' rr=>
   cases rr with
   |cons r'' rr=>
   cases rr;obtain⟨t,rfl⟩:=r;obtain⟨t',rfl⟩:=r';obtain⟨t'',rfl⟩:=r'';refine call_range_3 (by decide) ?_ (Or.inl (PyProof.noPylong_small (by lia)));refine wpAny_pyIter_range (IsRange.new ..) (small_down q1 q2 q3 q4) ?_;have I2:Inv X cM σ H1 { s1 with heap:=s1.heap.push { cls:=.type "range",data:=.fields #[.int i t,.int j t',.int (-1) t''] },toks:=s1.toks }:=I1.kept fun b o e=>JN _ e;refine ⟨(s1.heap.push { cls:=.type "range",data:=.fields #[.int i t,.int j t',.int (-1) t''] }).objs.size,[(s1.heap.push { cls:=.type "range",data:=.fields #[.int i t,.int j t',.int (-1) t''] }).objs.size],_,_,H1,rfl,
    I2.kept (t':=s1.toks) fun b o e=>JN _ e,u5 _ i (i-j).toNat,?_,fun b hb=>?_,q⟩
   ·have e1:i+((0:Nat):Int)*(-1)=i:=by lia
    have e2:(((i-j).toNat:Nat):Int)-((0:Nat):Int)=KJ i j (-1):=by rw[rangeSize_down];split<;>lia
    show IsRangeIter _ _ (i+((0:Nat):Int)*(-1)) ((((i-j).toNat:Nat):Int)-((0:Nat):Int)) (-1);rw[e1,e2];exact J0 _ rfl
   ·have e:b=(s1.heap.push { cls:=.type "range",data:=.fields #[.int i t,.int j t',.int (-1) t''] }).objs.size:=by simpa using hb
    subst e;exact I2.oF (JL _) (I2.hok.fresh (JL _))
end
noncomputable def Ite(K:Js)(a:Addr):It:=
 ⟨fun i H=>∃xs x,SqL K H a xs/\xs[i]?=some x,fun i H x H'=>∃p v,H p=none/\x=.ref p/\H'=upd H p (.tup [.int i,v])/\∀xs,SqL K H a xs->xs[i]?=some v,fun i H=>∃xs,SqL K H a xs/\xs.length<=i⟩
theorem u7{P:Program}{w:World}{K:Js}{elts:List Expr}{x1}{tp:Pos}(a e it:Addr)(NY:e≠it):Turn P w K (.Tuple elts x1 tp) (Ite K a) [e,it] e (fun i h=>(∃old,IsEnum h e it (i:Nat) old)/\h.IsListIter it a i) where
 mem:=by simp
 obj:=fun i h st b hb=>by
  obtain⟨⟨old,he⟩,o,e1,c,d⟩:=st;rcases JV.mp hb with rfl | hb
  ·exact ⟨_,he,fun v z=>by have z':L4 _=LH v:=z;cases z'⟩
  ·have e2:b=it:=by simpa using hb
   subst e2;exact⟨o,e1,fun v z=>by rw[d]at z;cases z⟩
 keep:=fun i h h' st k=>⟨let ⟨old,he⟩:=st.1;⟨old,k e (by simp) _ he⟩,st.2.at fun o z=>k it (by simp) o z⟩
 item:=by
  intro X hP hw hK hc i cM s σ H E I hf st hg;subst hP hw hK;obtain⟨xs,x,hq,hx⟩:=hg;obtain⟨its,rv,p,hz⟩:=I.list hq;obtain⟨u,hu,ru⟩:=rv.get hx;obtain⟨⟨old,he⟩,GR⟩:=st;refine wpAny_pyNext_enum_item he GR p.isList (x:=u) (by simpa using hu) NY fun h1 heo IC ht1 hz1 hk1=>?_;refine⟨_,rfl,wpAny_letOwnedTupleGo_enum heo fun h2 he2 hs2=>?_⟩;have IV:e<s.heap.objs.size:=JP he;have ht2:h2.get? s.heap.objs.size=some { cls:=.type "tuple",data:=.seq #[.int i s.toks,u] }:=(hs2.2 _ (KR IV)).trans ht1;have k2:∀b o,b∉[e,it]->s.heap.get? b=some o->h2.get? b=some o:=fun b o hb z=>by have n1:b≠e:=fun y=>hb (by simp[y]);have n2:b≠it:=fun y=>hb (by simp[y]);exact(hs2.2 b n1).trans (hk1 b o n1 n2 z)
  have hn:H s.heap.objs.size=none:=I.hok.fresh (JL _);have I2:Inv X cM σ (upd H s.heap.objs.size (.tup [.int i,x])) { s with heap:=h2,toks:=s.toks+1 }:=
   mL I hf k2 (JL _) ⟨by simp[sizeLine],[.int i s.toks,u],.cons ⟨s.toks,rfl⟩ (.cons ru .nil),_,ht2,rfl,_,rfl⟩
  refine⟨.ref s.heap.objs.size,_,I2,rfl,⟨_,x,hn,rfl,rfl,fun ys hy=>by rw[I.eZ hy hq];exact hx⟩,⟨⟨u,?_⟩,?_⟩,fun b hb=>?_⟩
  ·have:(((i+1:Nat):Int))=(i:Int)+1:=by lia
   rw[this];exact he2
  ·exact IC.at fun o z=>(hs2.2 it (Kl NY)).trans z
  ·have hb1:b≠s.heap.objs.size:=fun y=>by
    rcases JV.mp hb with z | z
    ·rw[y]at z;exact absurd z (KR IV)
    ·have z':b=it:=by simpa using z
     obtain⟨o,ho,_⟩:=GR;have:=JP ho;rw[<- z',y]at this;exact Ko _ this
   rw[aK hb1];exact(hf b hb).1
 done:=by intro X hP hw hK hc i cM s σ H E I hf st hg;subst hP hw hK;obtain⟨xs,hq,hx⟩:=hg;obtain⟨its,rv,p,hz⟩:=I.list hq;obtain⟨f0,f1,f2,f3,f4,f5⟩:=hf it (by simp);obtain⟨⟨old,he⟩,GR⟩:=st;have hl:=rv.length;exact wpAny_pyNext_enum_end (I.ok.hd hc) he GR p.isList (by simp;lia) fun h' eb=>⟨rfl,I.turned (t':=s.toks) (fun b o hb e=>eb b o hb e) f0 f1 f3 f4 f5⟩
 self:=fun A i s Q E st h=>by
  obtain⟨⟨old,he⟩,GR⟩:=st;have hT:s.TypeIs (.ref e) "enumerate" := ⟨_,he,rfl⟩
  refine wpAny_pyIter_slot hT F.slot_enumerate_iter (wpAny_call_entry F.slot_enumerate_iter hT F.entry_enumerate_iter ?_ (F.args_enumerate_iter_1 _));show wpAny _ _ (ret (.ref e)) _ _ s;exact wpAny_pure ⟨_,rfl,"enumerate",_,hT,F.slot_enumerate_next.lookup,h⟩
def Gm(K:Js)(tl:TE):TI:=fun σ H R=>tl σ H fun x H1=>∃a,x=.ref a/\(∃xs,SqL K H1 a xs)/\R (Ite K a) H1
section
variable{X:Cx}{l:Expr}{tl:TE}{p pos:Pos}{elts:List Expr}{x1:Nat}{tp:Pos}
theorem Ad(hg:Gl X "enumerate")(hm:X.mg "enumerate" = none)(hl:PE X l tl)(hs:starEach [l] X.env=[(false,eval l X.env)]:=by rfl):PI X (.Tuple elts x1 tp) (.Call (.Name "enumerate" p) [l] [] pos) (Gm X.K tl):=by
 intro cM s σ H R I h;refine Call_ (cX I hg hm boot_enumerate (J2 (spliced_more ?_ (by rw[hs];rfl)) (by rw[hs];rfl) rfl));refine thn (hl cM s σ H _ I h) fun v s1 ⟨x,H1,I1,r1,q1⟩=>?_;obtain⟨a,e,⟨xs,hq⟩,q⟩:=q1;subst e;cases r1;obtain⟨its,rv,pl,hz⟩:=I1.list hq;refine K0 (call_enumerate_list pl.isList fun h' he GR hsz k=>?_);have I2:Inv X cM σ H1 { s1 with heap:=h' }:=I1.kept (t':=s1.toks) k;have T:=u7 (P:=X.prog) (w:=X.w) (K:=X.K) (elts:=elts) (x1:=x1) (tp:=tp) a (s1.heap.objs.size+1) s1.heap.objs.size (Nat.succ_ne_self _);refine T.self X.A 0 { s1 with heap:=h' } _ X.xe ⟨⟨_,he⟩,GR⟩ ?_;refine⟨s1.heap.objs.size+1,[s1.heap.objs.size+1,s1.heap.objs.size],_,_,H1,rfl,I2,T,⟨⟨_,he⟩,GR⟩,fun b hb=>?_,q⟩;have:s1.heap.objs.size<=b:=by
  rcases JV.mp hb with rfl | hb
  ·exact L6 _
  ·have:b=s1.heap.objs.size:=by simpa using hb
   exact Nat.le_of_eq this.symm
 exact I1.oF this (I1.hok.fresh this)
end
theorem rq:typeLookup (.type "list_reverseiterator") "__len__" = pure none:=by rw[typeLookup_type,builtinLookup_eq_fast];kernel_rfl
theorem wW:typeLookup (.type "list_reverseiterator") "__length_hint__" = pure (some (.builtin "list_reverseiterator.__length_hint__")):=by rw[typeLookup_type,builtinLookup_eq_fast];kernel_rfl
section
variable{prog:Program}{w:World}{A:Around}{E:Value->Shared->Prop}{s:Shared}
section
variable{I l:Addr}
theorem wX{i:Int}{Q:Bool->Shared->Prop}(GR:s.heap.IsRevIter I l i)(h:Q false s):wpAny (model prog w) A (Builtin.List.listLengthHint (.ref I)) Q E s:=by
 unfold Builtin.List.listLengthHint;refine wpAny_bind (wpAny_specialOf GR.typeIs rq ?_);show wpAny _ A (specialOf (K6 I) (Str.ofString "__length_hint__") >>= _) _ _ _;refine wpAny_bind (wpAny_specialOf GR.typeIs wW ?_)
 generalize hid:("list_reverseiterator.__length_hint__" : String)=id0
 wp_delta
 rw[show splitId id0=some ("list_reverseiterator","__length_hint__") from by subst hid;decide +kernel];subst hid;refine wpAny_bind (wpAny_isInstance (T := "list_reverseiterator") (b:=true) GR.typeIs (by rw[isSubtype_type];kernel_rfl) ?_);refine wpAny_ite_split (fun NX=>absurd NX (by decide)) (fun _=>?_);refine wpAny_ite_split (fun _=>?_) (fun NX=>absurd (by decide +kernel) NX);refine wpAny_ite_split (fun NX=>absurd NX (by decide +kernel)) (fun _=>wpAny_pure h)
theorem rz{R:Result->Shared->Prop}{items:Array Value}(hh:A.handled=none)(GR:s.heap.IsRevIter I l ((items.size:Int)-1))(hl:s.heap.IsList l items)(NY:l≠I)(AY:items.size<=sizeLine)
  (S:Addr) (res:Value) (c₀:Nat) (hSI:S≠I) (hSl:S≠l) (hS:s.heap.get? S=some { cls:=.type "list",data:=.seq #[] c₀ })
  (hR:∀ h' tk acc' c',(∀ b o,b≠S→b≠I→s.heap.get? b=some o→h'.get? b=some o)→h'.get? S=some { cls:=.type "list",dict:=none,data:=.seq acc' c',slots:=#[] } →
   ItemsOf (fun i v=>items[items.size-1-i]?=some v) acc' items.size->R (.ok (.ret res)) { s with heap:=h',toks:=tk }) :
  wpAny (model prog w) A.in1 (KN (.ref S) (.ref I) res)
   (fun I0 s'=>match I0 with | .done f=>R (.ok f) s' | .again c'=>c'.quiet=true/\codeAny (model prog w) A c' R s') (fun e s'=>R (.error e) s') s:=by
 have hSf:S∉[I,l]:=fun hm=>by
  rcases JV.mp hm with z | z
  ·exact hSI z
  ·exact hSl (Kd.mp z)
 have W:=(Walks.listRev (prog:=prog) (w:=w) (A:=A.in1) hh I l NY items).toS;unfold KN;refine wpAny_bind (wpAny_typeOf (T := "list_reverseiterator") GR.typeIs ?_);have h1:Builtin.List.listSameRef (.ref S) (.ref I)=false:=by simp[Builtin.List.listSameRef,hSI]
 have h2:(Lj "list_reverseiterator" == Lj "list")=false:=by decide
 have h3:(Lj "list_reverseiterator" == Lj "tuple")=false:=by decide
 simp only[h1,h2,h3,Bool.or_false,Bool.false_eq_true,if_false];refine wpAny_bind (wpAny_pyIter_revIter GR ?_);refine wpAny_bind (wpAny_holding (wX GR ?_));refine wpAny_ite_split (fun NX=>absurd NX (by decide +kernel)) (fun _=>wpAny_pure ⟨plainId_quiet F.plain_extend_loop _,?_⟩);have hst:(0<=items.size)/\s.heap.IsRevIter I l ((items.size:Int)-1-((0:Nat):Int))/\s.heap.IsList l items:=⟨J8 _,by simpa using GR,hl⟩
 refine codeAny_extend_loopS W AY S hSf res items.size 0 _ #[] c₀ rfl (J8 _) hst hS (ItemsOf.nil _) fun s' acc' c' hm hS' hacc=>?_;rw[Moved.eq_with hm];refine hR s'.heap s'.toks acc' c' (fun b o hb hb2 e=>hm.heap b o (fun hmem=>?_) e) hS' hacc;rcases JV.mp hmem with e' | hmem
 ·exact hb e'
 ·exact hb2 (Kd.mp hmem)
theorem wY{R:Result->Shared->Prop}{items:Array Value}(hh:A.handled=none)(GR:s.heap.IsRevIter I l ((items.size:Int)-1))(hl:s.heap.IsList l items)(NY:l≠I)(AY:items.size<=sizeLine)
  (S:Addr) (hSI:S≠I) (hSl:S≠l) (hS:s.heap.get? S=some { cls:=.type "list",data:=.seq #[] })
  (hR:∀ h' tk acc' c',(∀ b o,b≠S→b≠I→s.heap.get? b=some o→h'.get? b=some o)→h'.get? S=some { cls:=.type "list",dict:=none,data:=.seq acc' c',slots:=#[] } →
   ItemsOf (fun i v=>items[items.size-1-i]?=some v) acc' items.size->R (.ok (.ret .none)) { s with heap:=h',toks:=tk }) :
  wpAny (model prog w) A.in1 (Builtin.«list.__init__» ⟨[.ref S,.ref I],[]⟩)
   (fun I0 s'=>match I0 with | .done f=>R (.ok f) s' | .again c'=>c'.quiet=true/\codeAny (model prog w) A c' R s') (fun e s'=>R (.error e) s') s:=by
 show wpAny _ A.in1 (do let old <- Builtin.List.listItems (.ref S);Builtin.List.listUpdate (.ref S) (fun _=>#[]);letGo old.toList.reverse;KN (.ref S) (.ref I) .none) _ _ s;refine wpAny_bind ?_;unfold Builtin.List.listItems;refine wpAny_bind (wpAny_seqItems hS rfl (wpAny_pure ?_));show wpAny _ A.in1 (updateSeq S (fun _=>#[]) >>= fun _=>letGo (#[]:Array Value).toList.reverse >>= fun _=>KN (.ref S) (.ref I) .none) _ _ s;refine wpAny_bind (wpAny_updateSeq hS rfl ?_);have hS₂:=Heap.get?_update_self (Lk (fun _=>(#[]:Array Value))) hS rfl;have oth:∀b o,b≠S->s.heap.get? b=some o->(s.heap.update S (Lk (fun _=>(#[]:Array Value)))).get? b=some o:=
  fun b o hb e=>(Ln _ _ (Kl hb)).trans e
 refine wpAny_bind (wpAny_letGo ?_);refine rz hh (GR.at fun o e=>oth I o (Kl hSI) e) (hl.at fun o e=>oth l o (Kl hSl) e) NY AY S .none _ hSI hSl hS₂ fun h' tk acc' c' hk hS' hacc=>?_;exact hR h' tk acc' c' (fun b o hb hb2 e=>hk b o hb hb2 (oth b o hb e)) hS' hacc
theorem l7{Q:Value->Shared->Prop}{items:Array Value}(hh:A.handled=none)(GR:s.heap.IsRevIter I l ((items.size:Int)-1))(hl:s.heap.IsList l items)(NY:l≠I)(AY:items.size<=sizeLine)
  (hQ:∀ h' tk acc' c',(∀ b o,b≠I→s.heap.get? b=some o→h'.get? b=some o)→h'.get? s.heap.objs.size=some { cls:=.type "list",dict:=none,data:=.seq acc' c',slots:=#[] } →
   ItemsOf (fun i v=>items[items.size-1-i]?=some v) acc' items.size->Q (.ref s.heap.objs.size) { s with heap:=h',toks:=tk }) :
  wpAny (model prog w) A (call (.type "list") [.ref I]) Q E s:=by
 refine callType_codes (Q₁:=fun obj s₁=>obj=.ref s.heap.objs.size/\s₁={ s with heap:=s.heap.push { cls:=.type "list",data:=.seq #[] } }) F.called_list (F.typeCall_list_1 _) F.entry_list_init
  (code_list_new _ ⟨rfl,rfl⟩) fun obj s₁ h₁=>?_
 obtain⟨rfl,rfl⟩:=h₁;have hS:(s.heap.push { cls:=.type "list",data:=.seq #[] }).get? s.heap.objs.size=some { cls:=.type "list",data:=.seq #[] }:=J0 _ rfl;obtain⟨oi,hoi,_⟩:=id GR;obtain⟨ol,hol,_⟩:=id hl;refine⟨⟨_,hS,rfl⟩,F.args_list_init_2 _ _,wY (A:=A.in1) hh (GR.at fun o e=>JN _ e) (hl.at fun o e=>JN _ e) NY AY _ (KR (JP hoi)) (KR (JP hol)) hS fun h' tk acc' c' hk hS' hacc=>?_⟩;exact⟨rfl,hQ h' tk acc' c' (fun b o hb e=>hk b o (J9 (JP e)) hb (JN _ e)) hS' hacc⟩
end
end
theorem j0{P:Nat->Value->Prop}{kM:Array Value}{ys:List V}(h:ItemsOf P kM ys.length)(k:∀i v,P i v->i<ys.length->∃y,ys[i]?=some y/\RelV y v):Vals ys kM.toList:=by
 have:∀(ys:List V) (us:List Value),ys.length=us.length->(∀(i:Nat) (u:Value),us[i]?=some u->∃y,ys[i]?=some y/\RelV y u)->Vals ys us:=by
  intro ys
  induction ys with
  |nil=>intro us e _;cases us with
   |nil=>exact .nil
   |cons _ _=>cases e
  |cons y ys ih=>intro us e f;cases us with
   |nil=>cases e
   |cons u us=>obtain⟨y',h1,h2⟩:=f 0 u rfl;cases h1;exact .cons h2 (ih us (by simpa using e) fun i u' hu=>by simpa using f (i+1) u' (by simpa using hu))
 refine this ys kM.toList (by have:=h.1;simp only[LC];exact this.symm) fun i u hu=>?_;have hu':kM[i]?=some u:=by rw[<- Array.getElem?_toList];exact hu
 have hi:i<ys.length:=by rw[<- h.1];exact(Array.getElem?_eq_some_iff.mp hu').1
 exact k i u (h.2 i u hu') hi
def DF(K:Js)(tl:TE):TE:=fun σ H Q=>tl σ H fun x H1=>∃a xs,x=.ref a/\SqL K H1 a xs/\∀q,H1 q=none->Q (.ref q) (upd H1 q (.lst xs.reverse))
def Gn(ta:TA):TE:=fun σ H Q=>ta σ H fun vs H1=>∃j:Int,vs=[.int j]/\-(2 ^ 62)<=j/\j<=1000000/\∀q,H1 q=none->Q (.ref q) (upd H1 q (.lst ((Ka j.toNat).map fun i=>V.int (i:Nat))))
section
variable{X:Cx}{l a:Expr}{tl:TE}{ta:TA}{p pos p0 jC:Pos}
theorem wZ(hc:X.calm=true)(hgl:Gl X "list")(hml:X.mg "list" = none)(hg:Gl X "reversed")(hm:X.mg "reversed" = none)(hl:PE X l tl)(hs:starEach [l] X.env=[(false,eval l X.env)]:=by rfl)
  (hs0:starEach [.Call (.Name "reversed" p) [l] [] pos] X.env=[(false,eval (.Call (.Name "reversed" p) [l] [] pos) X.env)]:=by rfl) :
  PE X (.Call (.Name "list" p0) [.Call (.Name "reversed" p) [l] [] pos] [] jC) (DF X.K tl):=by
 intro cM s σ H Q I h;refine wpAny_Call_Name_kw (cX I hgl hml boot_list (J2 (spliced_more ?_ (by rw[hs0];rfl)) (by rw[hs0];rfl) rfl));refine wV hg hm hl hs I h fun x H1 s1 I1 q1=>?_;obtain⟨a,xs,e,hq,q⟩:=q1;refine⟨a,xs,e,hq,fun its rv pl hz=>K0 ?_⟩;have hal:a<s1.heap.objs.size:=by obtain⟨o,ho,_⟩:=pl.isList;exact JP ho
 have hn:=rv.length;refine l7 (items:=its.toArray) (I.ok.hd hc) ⟨_,J0 _ rfl,rfl,rfl⟩ (pl.isList.at fun o e=>JN _ e) (J9 hal) (by rw[JR,<- hn];exact hz) fun h' tk acc' c' hk hS' hacc=>?_;have hsz:({ s1 with heap:=s1.heap.push (revObj a ((its.toArray.size:Int)-1)) }:Shared).heap.objs.size=s1.heap.objs.size+1:=Ma ..;have hp:s1.heap.objs.size<=({ s1 with heap:=s1.heap.push (revObj a ((its.toArray.size:Int)-1)) }:Shared).heap.objs.size:=by rw[hsz];exact L6 _
 have vl:Vals xs.reverse acc'.toList:=by
  refine j0 (by rw[KU,hn,<- JR];exact hacc) fun i v hv hi=>?_;rw[KU]at hi;rw[JR]at hv;have hv':its[its.length-1-i]?=some v:=by simpa using hv
  rw[Lu hi,hn];have IV:=(JH.mp hv').1;have hx:xs[its.length-1-i]?=some (xs[its.length-1-i]'(by lia)):=JX _;obtain⟨u,hu,ru⟩:=rv.get hx;rw[hv']at hu;cases hu;exact⟨_,hx,ru⟩
 have ok:bX X.prog X.w (upd H1 ({ s1 with heap:=s1.heap.push (revObj a ((its.toArray.size:Int)-1)) }:Shared).heap.objs.size (.lst xs.reverse)) h' ({ s1 with heap:=s1.heap.push (revObj a ((its.toArray.size:Int)-1)) }:Shared).heap.objs.size (.lst xs.reverse):=⟨by rw[KU];exact hz,acc'.toList,c',vl,by simpa using hS'⟩
 exact⟨.ref _,_,I1.laid (t':=tk) (fun b u e=>hk b u (J9 (JP e)) (JN _ e)) hp ok,rfl,q _ (I1.hok.fresh hp)⟩
theorem Ae(hc:X.calm=true)(hgl:Gl X "list")(hml:X.mg "list" = none)(hg:Gl X "range")(hm:X.mg "range" = none)(ha:PA X [a] ta)(hs:starEach [a] X.env=[(false,eval a X.env)]:=by rfl)
  (hs0:starEach [.Call (.Name "range" p) [a] [] pos] X.env=[(false,eval (.Call (.Name "range" p) [a] [] pos) X.env)]:=by rfl) :
  PE X (.Call (.Name "list" p0) [.Call (.Name "range" p) [a] [] pos] [] jC) (Gn ta):=by
 intro cM s σ H Q I h;refine wpAny_Call_Name_kw (cX I hgl hml boot_list (J2 (spliced_more ?_ (by rw[hs0];rfl)) (by rw[hs0];rfl) rfl));refine Call_ (cX I hg hm boot_range (J2 (thn (ha pos cM s σ H _ I h) fun us s1 ⟨vs,H1,I1,r1,q1⟩=>?_) hs rfl));obtain⟨j,e,q1,q2,q⟩:=q1;subst e;cases r1 with
 |cons r rr=>
  cases rr;obtain⟨t,rfl⟩:=r;refine call_range_1 (K0 ?_);have hn:KJ 0 j 1=(j.toNat:Nat):=by rw[rangeSize_one];split<;>lia
  refine call_list_range (n:=j.toNat) (I.ok.hd hc) (IsRange.new ..) (small_one (by lia) (by lia) q1 (by lia)) hn (by lia) fun h' tk acc' c' hk hS' hacc=>?_;have hsz:(s1.heap.push { cls:=.type "range",data:=.fields #[.int 0 s1.toks,.int j t,.int 1 (s1.toks+1)] }).objs.size=s1.heap.objs.size+1:=Ma ..;have hp:s1.heap.objs.size<=(s1.heap.push { cls:=.type "range",data:=.fields #[.int 0 s1.toks,.int j t,.int 1 (s1.toks+1)] }).objs.size:=by rw[hsz];exact L6 _
  have vl:Vals ((Ka j.toNat).map fun i=>V.int (i:Nat)) acc'.toList:=by
   refine j0 (by rw[JM,Lm];exact hacc) fun i v hv hi=>?_;obtain⟨t,rfl⟩:=hv;rw[JM,Lm]at hi;refine⟨.int (i:Nat),by rw[JT,K9 hi];rfl,t,?_⟩;have:(0:Int)+(i:Int)*1=i:=by lia
   rw[this]
  have ok:bX X.prog X.w (upd H1 (s1.heap.push { cls:=.type "range",data:=.fields #[.int 0 s1.toks,.int j t,.int 1 (s1.toks+1)] }).objs.size (.lst ((Ka j.toNat).map fun i=>V.int (i:Nat)))) h' (s1.heap.push { cls:=.type "range",data:=.fields #[.int 0 s1.toks,.int j t,.int 1 (s1.toks+1)] }).objs.size (.lst ((Ka j.toNat).map fun i=>V.int (i:Nat))):=
   ⟨by rw[JM,Lm,sizeLine_eq];lia,acc'.toList,c',vl,by simpa using hS'⟩
  exact⟨.ref _,_,I1.laid (t':=tk) (fun b u e=>hk b u (JN _ e)) hp ok,rfl,q _ (I1.hok.fresh hp)⟩
end
section
variable{ds:List Dat}{xs:List V}{H0:Hp}{a:Addr}
theorem aI.rev{H:Hp}(h:aI H xs ds):aI H xs.reverse ds.reverse:=by
 induction xs generalizing ds with
 |nil=>cases h;exact .nil
 |cons x xs ih=>
  cases h with
  |cons r rs=>rw[LS,LS];exact(ih rs).append (.cons r .nil)
theorem DG{K:Js}(hq:Rd H0 a (.lst xs))(rs:aI H0 xs ds):JW (Itv K a xs.length) H0 ds.reverse:=by intro H0' H s0 s1;have q:SqL K H a xs:=.inl (au.rd s1 (au.rd s0 hq));refine⟨fun i hi=>by rw[KU,<- rs.length]at hi;exact hi,fun i d e=>?_⟩;obtain⟨v,hv,rv⟩:=rs.rev.get e;refine⟨⟨xs,v,q,rfl,hv⟩,fun x H' y=>?_⟩;obtain⟨e1,y⟩:=y;subst e1;have z:=y xs q;rw[hv]at z;cases z;exact⟨H0',aP.refl s1,rv.mono s0⟩
theorem Af{hi:Int}{n:Nat}:JW (Itd hi n) H0 (Dm.downs hi n):=by
 intro H0' H s0 s1;have el:(Dm.downs hi n).length=n:=by simp[Dm.downs]
 refine⟨fun i hi=>by rw[el]at hi;exact hi,fun i d e=>?_⟩;have IV:i<n:=by have:=(JH.mp e).1;rw[el]at this;exact this
 have hd:d=.int (hi-i):=by unfold Dm.downs at e;rw[JT,K9 IV]at e;exact(Option.some.inj e).symm
 refine⟨IV,fun x H' y=>?_⟩;obtain⟨rfl,rfl⟩:=y;subst hd;exact⟨H0',aP.refl s1,.int _⟩
theorem o6:∀(ds:List Dat) (i:Nat),(Dm.iu i ds).length=ds.length
 |[],_=>rfl
 |_::ds,i=>by simp[Dm.iu,o6 ds]
theorem o7:∀(ds:List Dat) (i j:Nat) (d:Dat),(Dm.iu i ds)[j]?=some d->∃x,ds[j]?=some x/\d=.tup [.int ((i+j:Nat):Int),x]
 |[],_,_,_,h=>by cases h
 |x::ds,i,0,d,h=>by cases h;exact⟨x,rfl,rfl⟩
 |x::ds,i,j+1,d,h=>by
  obtain⟨y,h1,h2⟩:=o7 ds (i+1) j d h;refine⟨y,h1,?_⟩;rw[h2];have:i+1+j=i+(j+1):=by lia
  rw[this]
theorem Ag{K:Js}(hq:Rd H0 a (.lst xs))(rs:aI H0 xs ds):JW (Ite K a) H0 (Dm.iu 0 ds):=by intro H0' H s0 s1;have q:SqL K H a xs:=.inl (au.rd s1 (au.rd s0 hq));refine⟨fun i hi=>⟨xs,q,by rw[rs.length,<- o6 ds 0];exact hi⟩,fun i d e=>?_⟩;obtain⟨d',hd,rfl⟩:=o7 ds 0 i d e;obtain⟨v,hv,rv⟩:=rs.get hd;refine⟨⟨xs,v,q,hv⟩,fun x H' y=>?_⟩;obtain⟨p,v',hn,rfl,rfl,y⟩:=y;have z:=y xs q;rw[hv]at z;cases z;have g:=aP.zO (o:=HO.tup [.int i,v]) s1 hn;refine⟨_,g,.tup aV (.cons ?_ (.cons ((rv.mono s0).mono g.s0) .nil))⟩;rw[JF];exact .int _
end
section
variable{σ:L2.St}{H:Hp}{R:It->Hp->Prop}
theorem DH{K:Js}{f:FE}(h:tDI (Dm.uZ f) σ H R):BI K (tD f) σ H R:=by
 obtain⟨H0,ρ,ys,ρ',st,e,k⟩:=h;unfold Dm.uZ at e;split at e
 ·cases e
 rename_i x ρ1 e1;split at e
 ·rename_i ds ρ2 e2;cases e;refine⟨H0,ρ,_,ρ1,st,e1,fun v H0' H' t r=>?_⟩;obtain⟨H1,t1,b1,r1,_,_⟩:=take1 t (au.refl _) r e2;cases r1 with
  |lst q rs=>exact⟨_,_,rfl,.inl (au.rd t1.st.same q),k _ H1 H' t1 (DG q rs)⟩
 ·cases e
theorem Gp{K:Js}{f:FE}(h:tDI (Dm.iEn f) σ H R):Gm K (tD f) σ H R:=by
 obtain⟨H0,ρ,ys,ρ',st,e,k⟩:=h;unfold Dm.iEn at e;split at e
 ·cases e
 rename_i x ρ1 e1;split at e
 ·rename_i ds ρ2 e2;cases e;refine⟨H0,ρ,_,ρ1,st,e1,fun v H0' H' t r=>?_⟩;obtain⟨H1,t1,b1,r1,_,_⟩:=take1 t (au.refl _) r e2;cases r1 with
  |lst q rs=>exact⟨_,rfl,⟨_,.inl (au.rd t1.st.same q)⟩,k _ H1 H' t1 (Ag q rs)⟩
 ·cases e
theorem Gq{f g c:FE}(h:tDI (Dm.iRd f g c) σ H R):BJ (tDA [f,g,c]) σ H R:=by
 obtain⟨H0,ρ,ys,ρ',st,e,k⟩:=h;unfold Dm.iRd at e;split at e
 ·rename_i i ρ1 e1;split at e
  ·rename_i j ρ2 e2;split at e
   ·rename_i l ρ3 e3;split at e
    ·rename_i hb;cases e;refine⟨H0,ρ,[.val (.int i),.val (.int j),.val (.int l)],_,st,by simp only[Dm.eAs,e1,e2,e3];rfl,fun vs H0' H' t r=>?_⟩;cases r with
     |cons r rr=>
      cases rr with
      |cons r' rr=>
       cases rr with
       |cons r'' rr=>cases rr;cases Rep.isInt r;cases Rep.isInt r';cases Rep.isInt r'';obtain⟨h0,h1,h2,h3,h4⟩:=hb;subst h0;unfold Dm.BIG at h1 h2 h3 h4;exact⟨i,j,rfl,⟨by lia,by lia,by lia,by lia⟩,k _ H0' H' t Af⟩
    ·cases e
   ·cases e
  ·cases e
 ·cases e
end
theorem w4{K:Js}:UnD (fun x H Q=>∃a xs,x=.ref a/\SqL K H a xs/\∀q,H q=none->Q (.ref q) (upd H q (.lst xs.reverse))) Dm.iV:=by
 intro H0 H x dx z Q s rx e k;unfold Dm.iV at e;split at e
 ·cases e;obtain⟨a,us,rfl,qa,ra⟩:=b9 s rx;exact⟨a,us,rfl,.inl qa,fun p hp=>k _ _ _ (aP.l6 s hp) ⟨p,rfl,hp,s.free hp,_,aV,ra.rev⟩⟩
 ·cases e
theorem w6{H:Hp}:∀(n:Nat) ,aI H ((Ka n).map fun i=>V.int (i:Nat)) (Dm.ups 0 n):=by
 intro n;unfold Dm.ups;have:∀l:List Nat,aI H (l.map fun i=>V.int (i:Nat)) (l.map fun i=>Dat.int (0+(i:Nat))):=fun l=>by
  induction l with
  |nil=>exact .nil
  |cons x l ih=>rw[Ds,Ds,Int.zero_add];exact .cons (.int _) ih
 exact this _
theorem Ah:CallD (fun xs H Q=>∃j:Int,xs=[.int j]/\-(2 ^ 62)<=j/\j<=1000000/\∀q,H q=none->Q (.ref q) (upd H q (.lst ((Ka j.toNat).map fun i=>V.int (i:Nat))))) Dm.eW:=by
 intro H0 H xs ds z Q s rx e k;unfold Dm.eW at e;split at e
 ·rename_i j;split at e
  ·rename_i hb;cases e;cases rx with
   |cons r rr=>cases rr;cases aB r;exact⟨j,rfl,by lia,hb.1,fun p hp=>k _ _ _ (aP.l6 s hp) ⟨p,rfl,hp,s.free hp,_,aV,w6 _⟩⟩
  ·cases e
 ·cases e
section
variable{X:Cx}{tg e a b c:Expr}{f fa fb fc:FE}{p pos p0 jC:Pos}{elts:List Expr}{x1:Nat}{tp:Pos}
theorem Gr(hg:Gl X "reversed")(hm:X.mg "reversed" = none)(h:DE X e f)(hs:starEach [e] X.env=[(false,eval e X.env)]:=by rfl):DI X tg (.Call (.Name "reversed" p) [e] [] pos) (Dm.uZ f):=PI.weak (DB hg hm h hs) fun _ _ _=>DH
theorem ID(hg:Gl X "enumerate")(hm:X.mg "enumerate" = none)(h:DE X e f)(hs:starEach [e] X.env=[(false,eval e X.env)]:=by rfl):DI X (.Tuple elts x1 tp) (.Call (.Name "enumerate" p) [e] [] pos) (Dm.iEn f):=PI.weak (Ad hg hm h hs) fun _ _ _=>Gp
theorem Gs(hg:Gl X "range")(hm:X.mg "range" = none)(ha:DA X [a,b,c] [fa,fb,fc])(hs:starEach [a,b,c] X.env=(false,eval a X.env)::starEach [b,c] X.env:=by rfl)(hs2:(backTo pos (starEach [b,c] X.env)).any (·.1)=false:=by rfl) :
  DI X tg (.Call (.Name "range" p) [a,b,c] [] pos) (Dm.iRd fa fb fc):=PI.weak (u6 hg hm ha hs hs2) fun _ _ _=>Gq
theorem Ai(hc:X.calm=true)(hgl:Gl X "list")(hml:X.mg "list" = none)(hg:Gl X "reversed")(hm:X.mg "reversed" = none)(h:DE X e f)(hs:starEach [e] X.env=[(false,eval e X.env)]:=by rfl)
  (hs0:starEach [.Call (.Name "reversed" p) [e] [] pos] X.env=[(false,eval (.Call (.Name "reversed" p) [e] [] pos) X.env)]:=by rfl) :
  DE X (.Call (.Name "list" p0) [.Call (.Name "reversed" p) [e] [] pos] [] jC) (Dm.e1 Dm.iV f):=PE.weak (wZ hc hgl hml hg hm h hs hs0) fun _ _ _=>CW w4
theorem w_(hc:X.calm=true)(hgl:Gl X "list")(hml:X.mg "list" = none)(hg:Gl X "range")(hm:X.mg "range" = none)(h:DA X [a] [fa])(hs:starEach [a] X.env=[(false,eval a X.env)]:=by rfl)
  (hs0:starEach [.Call (.Name "range" p) [a] [] pos] X.env=[(false,eval (.Call (.Name "range" p) [a] [] pos) X.env)]:=by rfl) :
  DE X (.Call (.Name "list" p0) [.Call (.Name "range" p) [a] [] pos] [] jC) (Dm.eB Dm.eW [fa]):=PE.weak (Ae hc hgl hml hg hm h hs hs0) fun _ _ _=>CZ Ah
end
end Br
namespace Dm
noncomputable def bW(i:Nat)(own:Nat)(bd:FB)(t:FT)(el:FE):FE:=fun ρ=>match ρ[i]? with
 | some (.ow (.lst ds))=>if ds.length≤SZ then (match b7 bd t el ds (ρ.set i .un++gc own .un) [] with
  |none=>none
  |some (ys,ρ2)=>some (.new (.lst ys),(ρ2.take ρ.length).set i (.ow (.lst ds)))) else none
 |_=>bS (iS (eV i)) own bd t el ρ
end Dm
namespace Br
open PySem PySem.Spec PyProof.Rows L2
theorem xg{K:Js}{H0:Hp}{a:Addr}{xs:List V}{ds:List Dat}(rs:aI H0 xs ds):JWa (Itl K a) H0 (some (a,.lst xs)) ds:=by intro H0' H s0 s1 hq;have hq:=hq _ rfl;have q:SqL K H a xs:=.inl (.inl hq);refine⟨fun i hi=>⟨xs,q,by rw[rs.length];exact hi⟩,fun i d e=>?_⟩;obtain⟨v,hv,rv⟩:=rs.get e;refine⟨⟨xs,v,q,hv⟩,fun x H' y=>?_⟩;obtain⟨e1,y⟩:=y;subst e1;have z:=y xs q;rw[hv]at z;cases z;exact⟨H0',aP.refl s1,rv.mono s0⟩
theorem tE{K:Js}{σ:L2.St}{H:Hp}{i own:Nat}{bd:Dm.FB}{g:TG}{t:FT}{el:FE}{is:List Nat}{Q:VK}(hb:BD is g bd)(hl:∀i∈is,σ.length<=i)(h:tD (Dm.bW i own bd t el) σ H Q) :
  tLC (fun σ H R=>oG K (tD (Dm.eV i)) σ H R\/vQ K (tD (Dm.eV i)) σ H R) own g (tDT t) (tD el) σ H Q:=by
 obtain⟨H0,ρ,x,ρ',st,e,k⟩:=h;unfold Dm.bW at e;split at e
 ·rename_i ds eo;split at e
  case isFalse=>cases e
  rename_i hsz;split at e
  ·cases e
  rename_i ys ρ2 e2;cases e;refine .inl ⟨H0,ρ,.slot i,ρ,st,by unfold Dm.eV;rw[eo],fun v H0' H' t1 r=>?_⟩;obtain⟨a,qa,na,xs,ha,rs⟩:=t1.st.ow i _ eo;obtain⟨r1,_⟩:=r;rw[qa]at r1;cases r1;have nO:¬aq σ (ρ.set i .un) a:=fun z=>by obtain⟨j,d,hj,h1,h2⟩:=cN z;exact hj (t1.st.dis j i d _ a h1 eo h2 qa)
  have IV:i<ρ.length:=(JH.mp eo).1;refine⟨a,rfl,⟨xs,.inl (.inl ha)⟩,fun D hD=>oV hb hl (t1.st.mask i) (fun q e=>by cases e;exact⟨ha,na,nO⟩) (xg rs) hsz e2 (fun v H1 Hc t2 r2 hpa=>?_) D hD⟩;obtain⟨ha2,na2⟩:=hpa _ rfl;rw[Kc]at t2 r2;have oo:∀b,aq σ ((ρ2.take ρ.length).set i (.ow (.lst ds))) b->b=a\/aq σ (ρ2.take ρ.length) b:=fun b ⟨j,d,h1,h2⟩=>by
   by_cases q:i=j
   ·subst q;rw[qa]at h2;cases h2;exact .inl rfl
   ·rw[Jz q]at h1;exact .inr ⟨j,d,h1,h2⟩
  have om:∀b,aq σ (ρ.set i .un) b->aq σ ρ b:=fun b z=>by obtain⟨j,d,hj,h1,h2⟩:=cN z;exact⟨j,d,h1,h2⟩
  have oa:aq σ ρ a:=⟨i,_,eo,qa⟩
  have nO2:¬aq σ (ρ2.take ρ.length) a:=fun z=>nO (t2.own a z);have xh:(ρ2.take ρ.length).length=ρ.length:=by rw[<- t2.st.len,st.len]
  refine k v H1 Hc (t1.trans ⟨⟨t2.st.same,by rw[Kc];exact t2.st.len,fun j d h=>?_,fun j d h=>?_,fun j j' d d' b h1 h2 h3 h4=>?_⟩,t2.stp.wide om,fun b z=>?_,fun j z=>?_⟩) ?_
  ·by_cases q:i=j
   ·subst q;rw[J3 (by rw[xh];exact IV)]at h;cases h
   ·rw[Jz q]at h;exact t2.st.sh j d h
  ·by_cases q:i=j
   ·subst q;rw[J3 (by rw[xh];exact IV)]at h;cases h;exact⟨a,qa,na2,xs,ha2,rs.mono t2.stp.s0⟩
   ·rw[Jz q]at h;exact t2.st.ow j d h
  ·by_cases q:i=j
   ·subst q;by_cases q':i=j'
    ·exact q'
    ·rw[Jz q']at h2;rw[qa]at h3;cases h3;exact absurd ⟨j',d',h2,h4⟩ nO2
   ·rw[Jz q]at h1;by_cases q':i=j'
    ·subst q';rw[qa]at h4;cases h4;exact absurd ⟨j,d,h1,h3⟩ nO2
    ·rw[Jz q']at h2;exact t2.st.dis j j' d d' b h1 h2 h3 h4
  ·rcases oo b z with rfl | z
   ·exact oa
   ·exact om b (t2.own b z)
  ·trivial
  ·obtain⟨D',e',n',no',n0',w'⟩:=r2;refine⟨D',e',t1.stp.gone n',fun z=>?_,n0',w'⟩;rcases oo D' z with rfl | z
   ·rw[n']at ha;cases ha
   ·exact no' z
 ·have h2:=qZ (fi:=Dm.iS (Dm.eV i)) hb hl ⟨H0,ρ,x,ρ',st,e,k⟩;exact Gk h2
section
variable{X:Cx}{GP tg:Expr}{GQ:List Expr}{scope:Scope}{pos px:Pos}{bd:Dm.FB}{is:List Nat}{t:FT}{f:FE}{x:Str}
theorem i_M(i:Nat)(h:DE X (.Name x px) (Dm.eV i)):PI X tg (.Name x px) (fun σ H R=>oG X.K (tD (Dm.eV i)) σ H R\/vQ X.K (tD (Dm.eV i)) σ H R):=PI.or (sM h) (vR h)
theorem o8(i:Nat)(nm own:List Str)(hg:TGc X nm scope own tg is bd)(hi:DE X (.Name x px) (Dm.eV i))(ht:∀cl C s H fp,DTs (bG X nm scope own cl C s H fp) GQ t)(he:∀cl C s H fp,DE (bG X nm scope own cl C s H fp) GP f)
  (hc:X.calm=true:=by rfl) (hk:scope.kind=.function:=by rfl) (hS:mK X.env.scope X.N nm scope=true:=by rfl) (hl:(is.all fun i=>decide (X.N.length<=i))=true:=by rfl) (hs:∀y,foldedSetIterable (.Name x px) X.env y=pure y:=by intro _;rfl) :
  DE X (.ListComp GP [⟨tg,.Name x px,GQ,0⟩] scope pos) (Dm.bW i own.length bd t f):=by
 obtain⟨g,h1,h2⟩:=hg.ex;intro cM s σ H Q I h;exact sW hc (dD.of hS hk) (i_M i hi) h1 ht he hs cM s σ H Q I (tE h2 (fun i hi=>by rw[I.len];exact tw hl i hi) h)
theorem Gu(j i:Nat)(nm own:List Str){y:Str}{py GX:Pos}(hN:X.N.Nodup)(hg:TGc X nm scope own tg is bd)(hi:DE X (.Name x px) (Dm.eV i))(ht:∀cl C s H fp,DTs (bG X nm scope own cl C s H fp) GQ t)(he:∀cl C s H fp,DE (bG X nm scope own cl C s H fp) GP f)
  (hc:X.calm=true:=by rfl) (hk:scope.kind=.function:=by rfl) (hS:mK X.env.scope X.N nm scope=true:=by rfl) (hl:(is.all fun i=>decide (X.N.length<=i))=true:=by rfl) (hj:X.N[j]?=some y:=by rfl) (hy:Loc X.env.scope y:=by trivial)
  (hsw:swapsWith (.ListComp GP [⟨tg,.Name x px,GQ,0⟩] scope pos) (some (.Name y py)) GX.line X.env=pure true:=by rfl) (hs:∀y,foldedSetIterable (.Name x px) X.env y=pure y:=by intro _;rfl)
  (hf:X.fn y=true\/X.env.scope.names.lookup y=some .local:=by trivial):DS X (.Assign [.Name y py] (.ListComp GP [⟨tg,.Name x px,GQ,0⟩] scope pos) GX) (Dm.sA j (Dm.bW i own.length bd t f)):=by
 obtain⟨g,h1,h2⟩:=hg.ex;intro cM s σ H D I h;exact jj hN hj hy hc (dD.of hS hk) (i_M i hi) h1 ht he hsw hs hf cM s σ H D I (tE h2 (fun i hi=>by rw[I.len];exact tw hl i hi) (wo h))
end
end Br
namespace Dm
noncomputable def fR:List Dat->List Dat->List Dat
 |x::xs,y::ys=>.tup [x,y]::fR xs ys
 |_,_=>[]
noncomputable def Aj(a b:FE):FI:=fun ρ=>match eAs [a,b] ρ with
 | some (vs,ρ1)=>(match tks ρ1 vs with
  |some ([.lst xs,.lst ys],ρ2)=>some (fR xs ys,ρ2)
  |_=>none)
 |none=>none
end Dm
namespace Br
open PySem PySem.Spec PyProof.Rows L2
theorem rA{X:Cx}{cM:List (Addr×Obj)}{σ:L2.St}{H:Hp}{s:Shared}{h':Heap}{t':Nat}{fp:List Addr}(I:Inv X cM σ H s)(hf:∀b∈fp,lZ X cM H b)
  (k:∀b u,b∉fp->s.heap.get? b=some u->h'.get? b=some u):Inv X cM σ H { s with heap:=h',toks:=t' }:=by
 have nf:∀b u,H b=some u->b∉fp:=fun b u e z=>by rw[(hf b z).1]at e;cases e
 have nL:X.env.locals∉fp:=fun z=>(hf _ z).2.1 rfl;refine I.step (g':=s.gens) (d':=s.drawn) (ch:=fp) (fun b hb=>?_) (fun b u _ _ hc e _=>k b u hc e) (fun b u _ _ hc e _=>⟨u.slots,k b u hc e⟩)
  (fun b u _ e n=>n) (fun b u hc e=>⟨u,k b u hc e⟩)
  (fun b xs q=>q) (fun b u xs q=>q) (fun _ _ _ _ q=>q) (fun m hm=>?_) (fun b u e=>?_) I.bare
 ·obtain⟨f0,f1,f2,f3,f4,f5⟩:=hf b hb;exact⟨f3,f1,f4,f5⟩
 ·obtain⟨o,es,ep,ho,r⟩:=hm;exact⟨o,es,ep,k _ o nL ho,r⟩
 ·refine(I.hok b u e).stay (fun c v hc q=>k c v ?_ q) (fun c q=>q) (fun _ _ _ q=>q) fun c xs q=>q;rcases hc with z | z
  ·rw[z];exact nf b u e
  ·exact nf c _ z
noncomputable def Itz(K:Js)(a b:Addr):It:=
 ⟨fun i H=>∃ xs ys x y,SqL K H a xs∧SqL K H b ys∧xs[i]?=some x∧ys[i]?=some y,
  fun i H r H'=>∃p x y,H p=none/\r=.ref p/\H'=upd H p (.tup [x,y])/\(∀xs,SqL K H a xs->xs[i]?=some x)/\∀ys,SqL K H b ys->ys[i]?=some y,
  fun i H=>∃xs ys,SqL K H a xs/\SqL K H b ys/\(xs.length<=i\/ys.length<=i)⟩
theorem ff{h:Heap}{a b:Addr}{o o':Obj}(ha:h.get? a=some o)(hb:h.get? b=some o')(n:o.cls≠o'.cls):a≠b:=fun z=>by subst z;rw[ha]at hb;cases hb;exact n rfl
structure nF(z TI TO i1 i2:Addr):Prop where
 TIz:TI≠z
 TOz:TO≠z
 i1z:i1≠z
 i2z:i2≠z
 TITO:TI≠TO
 TIi1:TI≠i1
 TIi2:TI≠i2
 TOi1:TO≠i1
 TOi2:TO≠i2
 i12:i1≠i2
def xj(a b z TI TO i1 i2:Addr)(i:Nat)(h:Heap):Prop:=IsZip h z TI TO .none/\IsPair h TI (.ref i1) (.ref i2)/\(∃x y,IsPair h TO x y)/\h.IsListIter i1 a i/\h.IsListIter i2 b i
theorem o9{h:Heap}{a b z TI TO i1 i2:Addr}{i:Nat}{xs ys:Array Value}(F:nF z TI TO i1 i2)(st:xj a b z TI TO i1 i2 i h)(ha:h.IsList a xs)(hb:h.IsList b ys):ZipApart z TI TO i1 i2 a b:=by
 obtain⟨s1,s2,⟨x,y,s3⟩,s4,s5⟩:=st;obtain⟨o4,e4,c4,_⟩:=s4;obtain⟨o5,e5,c5,_⟩:=s5;obtain⟨oa,ea,ca,_⟩:=ha;obtain⟨ob,eb,cb,_⟩:=hb;have d:∀{n m:String},n≠m->(Lj n)≠(Lj m):=fun q z=>q (by injection z);exact ⟨F.TIz,F.TOz,F.i1z,F.i2z,F.TITO,F.TIi1,F.TIi2,F.TOi1,F.TOi2,F.i12,
  ff ea s1 (by rw[ca];exact d (by decide)),ff ea s3 (by rw[ca];exact d (by decide)),ff ea e4 (by rw[ca,c4];exact d (by decide)),ff ea e5 (by rw[ca,c5];exact d (by decide)),
  ff eb s1 (by rw[cb];exact d (by decide)),ff eb s3 (by rw[cb];exact d (by decide)),ff eb e4 (by rw[cb,c4];exact d (by decide)),ff eb e5 (by rw[cb,c5];exact d (by decide))⟩
theorem xm{P:Program}{w:World}{K:Js}{elts:List Expr}{x1}{tp:Pos}(a b z TI TO i1 i2:Addr)(F:nF z TI TO i1 i2):Turn P w K (.Tuple elts x1 tp) (Itz K a b) [z,TI,TO,i1,i2] z (xj a b z TI TO i1 i2) where
 mem:=by simp
 obj:=fun i h st c hc=>by
  obtain⟨s1,s2,⟨x,y,s3⟩,⟨o4,e4,c4,d4⟩,⟨o5,e5,c5,d5⟩⟩:=st;simp only[JV,K8,or_false]at hc;rcases hc with rfl | rfl | rfl | rfl | rfl
  ·exact⟨_,s1,fun v q=>by have q':L4 _=LH v:=q;cases q'⟩
  ·exact⟨_,s2,fun v q=>by have q':Data.seq _ _=LH v:=q;cases q'⟩
  ·exact⟨_,s3,fun v q=>by have q':Data.seq _ _=LH v:=q;cases q'⟩
  ·exact⟨o4,e4,fun v q=>by rw[d4]at q;cases q⟩
  ·exact⟨o5,e5,fun v q=>by rw[d5]at q;cases q⟩
 keep:=fun i h h' st k=>by obtain⟨s1,s2,⟨x,y,s3⟩,s4,s5⟩:=st;exact⟨k z (by simp) _ s1,k TI (by simp) _ s2,⟨x,y,k TO (by simp) _ s3⟩,s4.at fun o q=>k i1 (by simp) o q,s5.at fun o q=>k i2 (by simp) o q⟩
 item:=by
  intro X hP hw hK hc i cM s σ H E I hf st hg;subst hP hw hK;obtain⟨xs,ys,x,y,hq,hq',hx,hy⟩:=hg;obtain⟨its,rv,p,hz⟩:=I.list hq;obtain⟨its',rv',p',hz'⟩:=I.list hq';obtain⟨u,hu,ru⟩:=rv.get hx;obtain⟨u',hu',ru'⟩:=rv'.get hy;have D:=o9 F st p.isList p'.isList;obtain⟨s1,s2,⟨o1,o2,s3⟩,s4,s5⟩:=st;have lt:∀{c o},s.heap.get? c=some o->c<s.heap.objs.size:=fun q=>JP q;have l1:=lt s1;have l2:=lt s2;have l3:=lt s3;have l4:i1<s.heap.objs.size:=by obtain⟨_,q,_⟩:=s4;exact lt q
  have l5:i2<s.heap.objs.size:=by obtain⟨_,q,_⟩:=s5;exact lt q
  refine wpAny_pyNext_zip_item D s1 s2 s3 s4 s5 p.isList p'.isList (x:=u) (y:=u') (by simpa using hu) (by simpa using hu') fun h1 a1 a2 a3 a4 a5 a6 hk=>?_;refine⟨_,rfl,wpAny_letOwnedTupleGo_zip a1 fun h2 z2 hs2=>?_⟩;have ht2:h2.get? s.heap.objs.size=some { cls:=.type "tuple",data:=.seq #[u,u'] }:=(hs2.2 _ (KR l1)).trans a5;have k2:∀c o,c∉[z,TI,TO,i1,i2]->s.heap.get? c=some o->h2.get? c=some o:=fun c o hc q=>by simp only[JV,K8,or_false,not_or]at hc;exact(hs2.2 c hc.1).trans (hk c o hc.1 hc.2.2.1 hc.2.2.2.1 hc.2.2.2.2 q)
  have hn:H s.heap.objs.size=none:=I.hok.fresh (JL _);have I2:Inv X cM σ (upd H s.heap.objs.size (.tup [x,y])) { s with heap:=h2,toks:=s.toks }:=
   mL I hf k2 (JL _) ⟨by simp[sizeLine],[u,u'],.cons ru (.cons ru' .nil),_,ht2,rfl,_,rfl⟩
  refine⟨.ref s.heap.objs.size,_,I2,rfl,⟨_,x,y,hn,rfl,rfl,fun vs hv=>by rw[I.eZ hv hq];exact hx,fun vs hv=>by rw[I.eZ hv hq'];exact hy⟩,⟨z2,?_,⟨_,_,hs2.extBut _ _ D.TOz a2⟩,?_,?_⟩,fun c hc=>?_⟩
  ·exact hs2.extBut _ _ D.TIz (hk TI _ D.TIz D.TITO D.TIi1 D.TIi2 s2)
  ·exact a3.extBut hs2.extBut D.i1z
  ·exact a4.extBut hs2.extBut D.i2z
  ·have hc1:c≠s.heap.objs.size:=fun q=>by
    simp only[JV,K8,or_false]at hc;rcases hc with r | r | r | r | r
    ·subst r;rw[q]at l1;exact Ko _ l1
    ·subst r;rw[q]at l2;exact Ko _ l2
    ·subst r;rw[q]at l3;exact Ko _ l3
    ·subst r;rw[q]at l4;exact Ko _ l4
    ·subst r;rw[q]at l5;exact Ko _ l5
   rw[aK hc1];exact(hf c hc).1
 done:=by
  intro X hP hw hK hc i cM s σ H E I hf st hg;subst hP hw hK;obtain⟨xs,ys,hq,hq',hx⟩:=hg;obtain⟨its,rv,p,hz⟩:=I.list hq;obtain⟨its',rv',p',hz'⟩:=I.list hq';have hl:=rv.length;have hl':=rv'.length;have D:=o9 F st p.isList p'.isList;obtain⟨s1,s2,⟨o1,o2,s3⟩,s4,s5⟩:=st;refine wpAny_pyNext_zip_end (I.ok.hd hc) D s1 s2 s3 s4 s5 p.isList p'.isList ?_ fun h' hk=>⟨rfl,rA (t':=s.toks) I hf fun c o hc q=>?_⟩
  ·rcases hx with hx | hx
   ·exact .inl (by simp;lia)
   ·exact .inr (by simp;lia)
  ·simp only[JV,K8,or_false,not_or]at hc;exact hk c o hc.1 hc.2.2.1 hc.2.2.2.1 hc.2.2.2.2 q
 self:=fun A i s Q E st h=>wpAny_pyIter_zip st.1 h
def BK(K:Js)(ta:TA):TI:=fun σ H R=>ta σ H fun vs H1=>∃a b,vs=[.ref a,.ref b]/\(∃xs,SqL K H1 a xs)/\(∃ys,SqL K H1 b ys)/\R (Itz K a b) H1
section
variable{X:Cx}{l l':Expr}{ta:TA}{p pos:Pos}{elts:List Expr}{x1:Nat}{tp:Pos}
theorem DK(hg:Gl X "zip")(hm:X.mg "zip" = none)(ha:PA X [l,l'] ta)(hs:starEach [l,l'] X.env=(false,eval l X.env)::starEach [l'] X.env:=by rfl)(hs2:(backTo pos (starEach [l'] X.env)).any (·.1)=false:=by rfl) :
  PI X (.Tuple elts x1 tp) (.Call (.Name "zip" p) [l,l'] [] pos) (BK X.K ta):=by
 intro cM s σ H R I h;refine Call_ (cX I hg hm boot_zip (J2 (thn (ha pos cM s σ H _ I h) fun us s1 ⟨vs,H1,I1,r1,q1⟩=>?_) hs hs2));obtain⟨a,b,e,⟨xs,hq⟩,⟨ys,hq'⟩,q⟩:=q1;subst e;obtain⟨v1,v2,rfl,r,r'⟩:=vals2 r1;cases r;cases r';obtain⟨its,rv,pl,hz⟩:=I1.list hq;obtain⟨its',rv',pl',hz'⟩:=I1.list hq';refine call_zip_2 pl.isList pl'.isList fun h' e1 e2 e3 e4 e5 hsz k=>?_;have I2:Inv X cM σ H1 { s1 with heap:=h' }:=I1.kept (t':=s1.toks) k;have F:nF (s1.heap.objs.size+4) (s1.heap.objs.size+2) (s1.heap.objs.size+3) s1.heap.objs.size (s1.heap.objs.size+1):=by constructor<;>first | exact J9 (by lia) | exact KR (by lia)
 have T:=xm (P:=X.prog) (w:=X.w) (K:=X.K) (elts:=elts) (x1:=x1) (tp:=tp) a b _ _ _ _ _ F;have st:xj a b (s1.heap.objs.size+4) (s1.heap.objs.size+2) (s1.heap.objs.size+3) s1.heap.objs.size (s1.heap.objs.size+1) 0 h':=⟨e1,e2,⟨_,_,e3⟩,e4,e5⟩
 refine T.self X.A 0 { s1 with heap:=h' } _ X.xe st ?_;refine⟨s1.heap.objs.size+4,_,_,_,H1,rfl,I2,T,st,fun c hc=>?_,q⟩;have:s1.heap.objs.size<=c:=by simp only[JV,K8,or_false]at hc;rcases hc with r | r | r | r | r<;>(rw[r];first | exact Nat.le_add_right _ _ | exact JL _)
 exact I1.oF this (I1.hok.fresh this)
end
theorem tF:∀(xs ys:List Dat),(Dm.fR xs ys).length=min xs.length ys.length
 |[],_=>by simp[Dm.fR]
 |_::_,[]=>by simp[Dm.fR]
 |x::xs,y::ys=>by simp[Dm.fR,tF xs ys]
theorem zip_get:∀(xs ys:List Dat) (j:Nat) (d:Dat),(Dm.fR xs ys)[j]?=some d->∃x y,xs[j]?=some x/\ys[j]?=some y/\d=.tup [x,y]
 |[],_,_,_,h=>by simp[Dm.fR]at h
 |_::_,[],_,_,h=>by simp[Dm.fR]at h
 |x::xs,y::ys,0,d,h=>by cases h;exact⟨x,y,rfl,rfl,rfl⟩
 |x::xs,y::ys,j+1,d,h=>zip_get xs ys j d h
theorem DL{K:Js}{H0:Hp}{a b:Addr}{xs ys:List V}{ds es:List Dat}(hq:Rd H0 a (.lst xs))(rs:aI H0 xs ds)(hq':Rd H0 b (.lst ys))(rs':aI H0 ys es):JW (Itz K a b) H0 (Dm.fR ds es):=by
 intro H0' H s0 s1;have q:SqL K H a xs:=.inl (au.rd s1 (au.rd s0 hq));have q':SqL K H b ys:=.inl (au.rd s1 (au.rd s0 hq'));refine⟨fun i hi=>⟨xs,ys,q,q',?_⟩,fun i d e=>?_⟩
 ·rw[tF]at hi;have:=rs.length;have:=rs'.length
  lia
 obtain⟨x,y,hx,hy,rfl⟩:=zip_get ds es i d e;obtain⟨v,hv,rv⟩:=rs.get hx;obtain⟨v',hv',rv'⟩:=rs'.get hy;refine⟨⟨xs,ys,v,v',q,q',hv,hv'⟩,fun r H' z=>?_⟩;obtain⟨p,u,u',hn,rfl,rfl,z1,z2⟩:=z;have w1:=z1 xs q;have w2:=z2 ys q';rw[hv]at w1;rw[hv']at w2;cases w1;cases w2;have g:=aP.zO (o:=HO.tup [v,v']) s1 hn;exact⟨_,g,.tup aV (.cons ((rv.mono s0).mono g.s0) (.cons ((rv'.mono s0).mono g.s0) .nil))⟩
section
variable{σ:L2.St}{H:Hp}{R:It->Hp->Prop}
theorem DM{K:Js}{f g:FE}(h:tDI (Dm.Aj f g) σ H R):BK K (tDA [f,g]) σ H R:=by
 obtain⟨H0,ρ,ys,ρ',st,e,k⟩:=h;unfold Dm.Aj at e;split at e
 ·rename_i vs ρ1 e1;split at e
  ·rename_i xs zs ρ2 e2;cases e;refine⟨H0,ρ,vs,ρ1,st,e1,fun us H0' H' t r=>?_⟩;obtain⟨H1,t1,b1,r1⟩:=takes t (au.refl _) r e2;cases r1 with
   |cons q1 rr=>
    cases rr with
    |cons q2 rr=>
     cases rr;cases q1 with
     |lst q rs=>
      cases q2 with
      |lst q' rs'=>exact⟨_,_,rfl,⟨_,.inl (au.rd t1.st.same q)⟩,⟨_,.inl (au.rd t1.st.same q')⟩,k _ H1 H' t1 (DL q rs q' rs')⟩
  ·cases e
 ·cases e
end
section
variable{X:Cx}{a b:Expr}{fa fb:FE}{p pos:Pos}{elts:List Expr}{x1:Nat}{tp:Pos}
theorem Gv(hg:Gl X "zip")(hm:X.mg "zip" = none)(ha:DA X [a,b] [fa,fb])(hs:starEach [a,b] X.env=(false,eval a X.env)::starEach [b] X.env:=by rfl)(hs2:(backTo pos (starEach [b] X.env)).any (·.1)=false:=by rfl) :
  DI X (.Tuple elts x1 tp) (.Call (.Name "zip" p) [a,b] [] pos) (Dm.Aj fa fb):=PI.weak (DK hg hm ha hs hs2) fun _ _ _=>DM
end
end Br
namespace Ts
open PySem PyProof.Rows
variable{M:Model}{A:Around}{E:Value->Shared->Prop}{s:Shared}{κ:KeyKind}{kd:SortKind}{a₀:Array Keyed}
end Ts
namespace Ts
open PySem PyProof.Rows
variable{M:Model}{A:Around}{E:Value->Shared->Prop}{s:Shared}{κ:KeyKind}{kd:SortKind}{a₀:Array Keyed}
end Ts
namespace Ts
open PySem PyProof.Rows
variable{M:Model}{A:Around}{E:Value->Shared->Prop}{s:Shared}{κ:KeyKind}{kd:SortKind}{a₀:Array Keyed}
end Ts
namespace Ts
open PySem PyProof.Rows
variable{M:Model}{A:Around}{E:Value->Shared->Prop}{s:Shared}{κ:KeyKind}{kd:SortKind}{a₀:Array Keyed}
end Ts
namespace Ts
open PySem PyProof.Rows
variable{A:Around}{E:Value->Shared->Prop}{s:Shared}{κ:KeyKind}{kd:SortKind}{a₀:Array Keyed}{prog:Program}{w:World}
end Ts
namespace Ts
open PySem PyProof.Rows
variable{A:Around}{E:Value->Shared->Prop}{s:Shared}{κ:KeyKind}{kd:SortKind}{a₀:Array Keyed}{prog:Program}{w:World}
end Ts
namespace Ts
open PySem PyProof.Rows
variable{A:Around}{E:Value->Shared->Prop}{s:Shared}{κ:KeyKind}{kd:SortKind}{a₀:Array Keyed}{prog:Program}{w:World}
end Ts
namespace Ts
open PySem PyProof.Rows
variable{A:Around}{E:Value->Shared->Prop}{s:Shared}{κ:KeyKind}{kd:SortKind}{a₀:Array Keyed}{prog:Program}{w:World}
end Ts
namespace Ts
open PySem PyProof.Rows
variable{A:Around}{E:Value->Shared->Prop}{s:Shared}{κ:KeyKind}{kd:SortKind}{prog:Program}{w:World}
end Ts
namespace Ts
open PySem PyProof.Rows
variable{A:Around}{E:Value->Shared->Prop}{s:Shared}{κ:KeyKind}{kd:SortKind}{a₀:Array Keyed}{prog:Program}{w:World}
end Ts
namespace Ts
open PySem PyProof.Rows
variable{A:Around}{E:Value->Shared->Prop}{s:Shared}{κ:KeyKind}{kd:SortKind}{prog:Program}{w:World}
end Ts
namespace L2
open PySem PySem.Spec PyProof.Rows
section
variable{P:Program}{w:World}{K:Js}{mg:Str->Option Value}{base:Heap}{N:List Str}{qual:Str}{scope:Scope}{f:Addr}{cd:Value}{A:Around}{outer:List Env}{s₀:Shared}{H₀:Hp}{E:XK}{C:Addr}
 {cM:List (Addr×Obj)} {σ:St} {H:Hp} {s:Shared}
end
end L2
namespace Dm
noncomputable abbrev FN:=Env->List (List Dat)->Option (Env×List (List Dat))
end Dm
namespace Br
open PySem PySem.Spec PyProof.Rows L2
section
variable{X:Cx}{a b c e:Expr}{fa fb fc:FE}{p pos:Pos}
theorem Ak{op op':CmpOp}{r r':R2}{g h:Dat->Dat->Option RV}(o1:OpR X (compareOp op) r)(q1:OpD r g)(o2:OpR X (compareOp op') r')(q2:OpD r' h)(ha:DE X a fa)(hb:DE X b fb)(hc:DE X c fc)
  (hm:lastMarks [op,op'] [b,c]=false:=by with_unfolding_all rfl):DT X (.Compare a [op,op'] [b,c] pos) (Dm.tV (Dm.ao g h fa fb fc)):=PT.weak (vW o1 o2 ha hb hc hm) fun _ _ _ h=>s_ q1 q2 (qX h)
end
open PySem
variable{C:List Value->Prop}{us:List Value}
theorem len0(h:us.length=0)(c:C []):C us:=by rw[List.eq_nil_of_length_eq_zero h];exact c
theorem Al{n:Nat}{C:List Value->Prop}{us:List Value}(h:us.length=n+1)(c:∀a us,us.length=n->C (a::us)):C us:=by
 cases us with
 |nil=>cases h
 |cons a us=>exact c a us (by simpa using h)
theorem Gw(h:us.length=1)(c:∀a,C [a]):C us:=Al h fun a _ h=>len0 h (C:=fun us=>C (a::us)) (c a)
theorem xh(h:us.length=2)(c:∀a b,C [a,b]):C us:=Al h fun a _ h=>Gw h (C:=fun us=>C (a::us)) (c a)
theorem Gx(h:us.length=3)(c:∀a b d,C [a,b,d]):C us:=Al h fun a _ h=>xh h (C:=fun us=>C (a::us)) (c a)
theorem IE(h:us.length=4)(c:∀a b d e,C [a,b,d,e]):C us:=Al h fun a _ h=>Gx h (C:=fun us=>C (a::us)) (c a)
end Br
namespace L2
open PySem
variable{K:Js}{x qual:Str}{st:Stmt}{f:Addr}{fd:FuncData}{ps:List Str}
theorem Fun.ck(F:Fun K x qual st f fd)(hp:ps.length=1)(h:∀(kV doc pm:Value) (an:Option Addr) (cdv ct:Value) (a:Value),bindArgs (Kh x qual (bV st) (bM st) (ah st) .none kV doc pm an cdv ct) ⟨[a],[]⟩=pure (ps.zip [a])):Binds K fd ps []:=
 F.binds fun kV doc pm an cdv ct us hl=>Br.Gw (C:=fun us=>bindArgs (Kh x qual (bV st) (bM st) (ah st) .none kV doc pm an cdv ct) ⟨us,[]⟩=pure (ps.zip us)) (hl.trans hp) (h kV doc pm an cdv ct)
theorem Fun.gf(F:Fun K x qual st f fd)(hp:ps.length=2)(h:∀(kV doc pm:Value) (an:Option Addr) (cdv ct:Value) (a b:Value),bindArgs (Kh x qual (bV st) (bM st) (ah st) .none kV doc pm an cdv ct) ⟨[a,b],[]⟩=pure (ps.zip [a,b])):Binds K fd ps []:=
 F.binds fun kV doc pm an cdv ct us hl=>Br.xh (C:=fun us=>bindArgs (Kh x qual (bV st) (bM st) (ah st) .none kV doc pm an cdv ct) ⟨us,[]⟩=pure (ps.zip us)) (hl.trans hp) (h kV doc pm an cdv ct)
theorem Fun.iW(F:Fun K x qual st f fd)(hp:ps.length=3)(h:∀(kV doc pm:Value) (an:Option Addr) (cdv ct:Value) (a b d:Value),bindArgs (Kh x qual (bV st) (bM st) (ah st) .none kV doc pm an cdv ct) ⟨[a,b,d],[]⟩=pure (ps.zip [a,b,d])):Binds K fd ps []:=
 F.binds fun kV doc pm an cdv ct us hl=>Br.Gx (C:=fun us=>bindArgs (Kh x qual (bV st) (bM st) (ah st) .none kV doc pm an cdv ct) ⟨us,[]⟩=pure (ps.zip us)) (hl.trans hp) (h kV doc pm an cdv ct)
theorem Fun.xo(F:Fun K x qual st f fd)(hp:ps.length=4)(h:∀(kV doc pm:Value) (an:Option Addr) (cdv ct:Value) (a b d e:Value),bindArgs (Kh x qual (bV st) (bM st) (ah st) .none kV doc pm an cdv ct) ⟨[a,b,d,e],[]⟩=pure (ps.zip [a,b,d,e])):Binds K fd ps []:=
 F.binds fun kV doc pm an cdv ct us hl=>Br.IE (C:=fun us=>bindArgs (Kh x qual (bV st) (bM st) (ah st) .none kV doc pm an cdv ct) ⟨us,[]⟩=pure (ps.zip us)) (hl.trans hp) (h kV doc pm an cdv ct)
end L2
namespace Dm
inductive Dp where
 |s (d:Dat)
 |l (xs:List Dp)
 |t (xs:List Dp)
mutual
noncomputable def Dp.dat:Dp->Dat
 |.s d=>d
 |.l xs=>.lst (Dp.o_ xs)
 |.t xs=>.tup (Dp.o_ xs)
noncomputable def Dp.o_:List Dp->List Dat
 |[]=>[]
 |x::r=>x.dat::Dp.o_ r
end
theorem Dp.pe:∀xs:List Dp,Dp.o_ xs=xs.map Dp.dat
 |[]=>rfl
 |x::r=>by rw[Dp.o_,Dp.pe r];rfl
theorem Dp.DN(ds:List Dat):Dp.o_ (ds.map Dp.s)=ds:=by rw[Dp.pe,Kr];exact(La fun d _=>rfl).trans (Mi ds)
noncomputable abbrev FP:=Env->Option (Dp×Env)
noncomputable def pO(f:FE):FP:=fun ρ=>match f ρ with
 |some (.val d,ρ1)=>some (.s d,ρ1)
 |some (.new (.lst ds),ρ1)=>some (.l (ds.map .s),ρ1)
 | some (.slot i,ρ1)=>(match ρ1[i]? with
  |some (.ow (.lst ds))=>some (.l (ds.map .s),ρ1.set i .un)
  |some (.sh d)=>some (.s d,ρ1)
  |_=>none)
 |_=>none
noncomputable def pAs:List FP->Env->Option (List Dp×Env)
 |[],ρ=>some ([],ρ)
 |f::r,ρ=>match f ρ with
  |none=>none
  |some (x,ρ1)=>match pAs r ρ1 with
   |none=>none
   |some (xs,ρ2)=>some (x::xs,ρ2)
noncomputable def pT(fs:List FP):FP:=fun ρ=>match pAs fs ρ with
 |none=>none
 |some (ps,ρ1)=>if ps.length<=SZ then some (.t ps,ρ1) else none
noncomputable abbrev FSP:=Env->Option Dp
noncomputable def qR(f:FP):FSP:=fun ρ=>match f ρ with
 |none=>none
 |some (p,_)=>some p
noncomputable def cA(s:FS)(g:FSP):FSP:=fun ρ=>match s ρ with
 |some (.nx ρ1)=>g ρ1
 |_=>none
noncomputable def fnP(n m:Nat)(g:FSP)(ds:List Dat):Option Dp:=if ds.length=n then g (ds.map Cell.sh++gc m .un) else none
noncomputable def shC:Cell->Cell
 |.ow d=>.sh d
 |c=>c
noncomputable def tG(ρ:Env):Env:=ρ.map shC
noncomputable abbrev FM:=Env->Dp->Option Out
noncomputable def see(j:Nat)(ρ:Env)(p:Dp):Env:=tG (ρ.set j (.sh p.dat))
noncomputable def mIf(j:Nat)(t:FT)(fs:FS)(g:FM):FM:=fun ρ p=>match t (see j ρ p) with
 |none=>none
 | some (true,_)=>(match fs ρ with
  |some (.nx _)=>none
  |o=>o)
 |some (false,_)=>g ρ p
end Dm
namespace Br
open PySem PySem.Spec PyProof.Rows L2
mutual
inductive cP(N:Addr->Prop)(H0 H:Hp):V->Dm.Dp->List Addr->Prop
 |s {v:V} {d:Dat}:Rep H0 v d->cP N H0 H v (.s d) []
 |l {a:Addr} {vs:List V} {ps:List Dm.Dp} {fp:List Addr}:N a->H a=some (.lst vs)->bx N H0 H vs ps fp->cP N H0 H (.ref a) (.l ps) (a::fp)
 |t {a:Addr} {vs:List V} {ps:List Dm.Dp} {fp:List Addr}:N a->H a=some (.tup vs)->bx N H0 H vs ps fp->cP N H0 H (.ref a) (.t ps) fp
inductive bx(N:Addr->Prop)(H0 H:Hp):List V->List Dm.Dp->List Addr->Prop
 |nil:bx N H0 H [] [] []
 |cons {v:V} {p:Dm.Dp} {f:List Addr} {vs:List V} {ps:List Dm.Dp} {fp:List Addr}:cP N H0 H v p f->bx N H0 H vs ps fp->bx N H0 H (v::vs) (p::ps) (f++fp)
end
section
variable{N N':Addr->Prop}{H0 H H0' H':Hp}
mutual
theorem cP.mono(s:au H0 H0')(kn:∀a,N a->N' a)(kt:∀a vs,N a->H a=some (.tup vs)->H' a=some (.tup vs)):∀{v:V} {p:Dm.Dp} {fp:List Addr},cP N H0 H v p fp->(∀a∈fp,H' a=H a)->cP N' H0' H' v p fp
 |_,_,_,.s r,_=>.s (r.mono s)
 |_,_,_,.l n h r,k=>.l (kn _ n) ((k _ JJ).trans h) (bx.mono s kn kt r fun b hb=>k b (JK _ hb))
 |_,_,_,.t n h r,k=>.t (kn _ n) (kt _ _ n h) (bx.mono s kn kt r k)
theorem bx.mono(s:au H0 H0')(kn:∀a,N a->N' a)(kt:∀a vs,N a->H a=some (.tup vs)->H' a=some (.tup vs)):∀{vs:List V} {ps:List Dm.Dp} {fp:List Addr},bx N H0 H vs ps fp->(∀a∈fp,H' a=H a)->bx N' H0' H' vs ps fp
 |_,_,_,.nil,_=>.nil
 |_,_,_,.cons h r,k=>.cons (cP.mono s kn kt h fun a ha=>k a (K7 _ ha)) (bx.mono s kn kt r fun a ha=>k a (J6 _ ha))
end
mutual
theorem cP.fpN:∀{v:V} {p:Dm.Dp} {fp:List Addr},cP N H0 H v p fp->∀a∈fp,N a/\∃xs,H a=some (.lst xs)
 |_,_,_,.s _,_,h=>by cases h
 |_,_,_,.l n h r,a,ha=>by
  rcases JV.mp ha with rfl | ha
  ·exact⟨n,_,h⟩
  ·exact bx.fpN r a ha
 |_,_,_,.t n h r,a,ha=>bx.fpN r a ha
theorem bx.fpN:∀{vs:List V} {ps:List Dm.Dp} {fp:List Addr},bx N H0 H vs ps fp->∀a∈fp,N a/\∃xs,H a=some (.lst xs)
 |_,_,_,.nil,_,h=>by cases h
 |_,_,_,.cons h r,a,ha=>(Ks.mp ha).elim (cP.fpN h a) (bx.fpN r a)
end
mutual
theorem cP.rep(s:au H0 H0')(k:∀a o,N a->H a=some o->H0' a=some o):∀{v:V} {p:Dm.Dp} {fp:List Addr},cP N H0 H v p fp->Rep H0' v p.dat
 |_,_,_,.s r=>r.mono s
 |_,_,_,.l n h r=>.lst (.inl (k _ _ n h)) (bx.rep s k r)
 |_,_,_,.t n h r=>.tup (k _ _ n h) (bx.rep s k r)
theorem bx.rep(s:au H0 H0')(k:∀a o,N a->H a=some o->H0' a=some o):∀{vs:List V} {ps:List Dm.Dp} {fp:List Addr},bx N H0 H vs ps fp->aI H0' vs (Dm.Dp.o_ ps)
 |_,_,_,.nil=>.nil
 |_,_,_,.cons h r=>.cons (cP.rep s k h) (bx.rep s k r)
end
theorem bx.nG:∀{vs:List V} {ds:List Dat},aI H0 vs ds->bx N H0 H vs (ds.map .s) []
 |_,_,.nil=>.nil
 |_,_,.cons h r=>.cons (.s h) (bx.nG r)
theorem bx.get:∀{vs:List V} {ps:List Dm.Dp} {fp:List Addr} {i:Nat} {p:Dm.Dp},bx N H0 H vs ps fp->ps[i]?=some p->∃v f,vs[i]?=some v/\cP N H0 H v p f/\∀a∈f,a∈fp
 |_,_,_,_,_,.nil,e=>by simp at e
 |_,_,_,0,_,.cons h _,e=>by simp at e;subst e;exact⟨_,_,rfl,h,fun a ha=>K7 _ ha⟩
 |_,_,_,i+1,_,.cons _ r,e=>by obtain⟨v,f,h1,h2,h3⟩:=bx.get (i:=i) r (by simpa using e);exact⟨v,f,by simpa using h1,h2,fun a ha=>J6 _ (h3 a ha)⟩
theorem bx.length:∀{vs:List V} {ps:List Dm.Dp} {fp:List Addr},bx N H0 H vs ps fp->vs.length=ps.length
 |_,_,_,.nil=>rfl
 |_,_,_,.cons _ r=>by rw[gp,gp,bx.length r]
end
theorem aC.rB{H0 H:Hp}{σ:L2.St}{ρ:Dm.Env}{a:Addr}{vs:List V}(st:aC H0 H σ ρ)(h:H a=some (.tup vs)):¬aq σ ρ a:=fun⟨i,d,h1,h2⟩=>by
 obtain⟨b,q,n,w⟩:=st.ow i d h1;rw[h2]at q;cases q;cases d with
 |lst ds=>obtain⟨xs,y,_⟩:=w;rw[h]at y;cases y
 |dct ks ds=>obtain⟨xs,y,_⟩:=w;rw[h]at y;cases y
 |dcp ks ds=>obtain⟨xs,y,_⟩:=w;rw[h]at y;cases y
 |_=>exact w
theorem cP.est{N:Addr->Prop}{σ:L2.St}{ρ ρ':Dm.Env}{H0 H H0' H':Hp}{v:V}{p:Dm.Dp}{fp:List Addr}(st:aC H0 H σ ρ)(t:ESt σ ρ H0 H ρ' H0' H')(r:cP N H0 H v p fp)(k:∀a∈fp,H0 a=none/\¬aq σ ρ a) :
  cP N H0' H' v p fp/\∀a∈fp,H0' a=none/\¬aq σ ρ' a:=by
 refine⟨r.mono t.stp.s0 (fun _ n=>n) (fun a vs _ h=>t.stp.s1 a _ h (st.rB h)) fun a ha=>?_,fun a ha=>?_⟩
 ·obtain⟨_,xs,h⟩:=r.fpN a ha;rw[(t.fV h (k a ha).1 (k a ha).2).1,h]
 ·obtain⟨_,xs,h⟩:=r.fpN a ha;exact(t.fV h (k a ha).1 (k a ha).2).2
def nH(σ:L2.St)(ρ:Dm.Env)(H:Hp)(a:Addr):Prop:=H a=none\/aq σ ρ a
def rC(σ:L2.St)(ρ:Dm.Env)(H0:Hp)(fp:List Addr):Prop:=fp.Nodup/\∀a∈fp,H0 a=none/\¬aq σ ρ a
def tDp(f:Dm.FP):TE:=fun σ H Q=>∃H0 ρ p ρ',aC H0 H σ ρ/\f ρ=some (p,ρ')/\∀v H0' H' fp,ESt σ ρ H0 H ρ' H0' H'->cP (nH σ ρ H) H0' H' v p fp->rC σ ρ' H0' fp->Q v H'
def xq(fs:List Dm.FP):TA:=fun σ H Q=>∃H0 ρ ps ρ',aC H0 H σ ρ/\Dm.pAs fs ρ=some (ps,ρ')/\∀vs H0' H' fp,ESt σ ρ H0 H ρ' H0' H'->bx (nH σ ρ H) H0' H' vs ps fp->rC σ ρ' H0' fp->Q vs H'
noncomputable abbrev DP(X:Cx)(e:Expr)(f:Dm.FP):Prop:=PE X e (tDp f)
noncomputable abbrev DPA(X:Cx)(es:List Expr)(fs:List Dm.FP):Prop:=PA X es (xq fs)
section
variable{σ:L2.St}{H:Hp}{Q:VK}
theorem IF{f:FE}(h:tDp (Dm.pO f) σ H Q):tD f σ H Q:=by
 obtain⟨H0,ρ,p,ρ',st,e,k⟩:=h;unfold Dm.pO at e;split at e
 ·rename_i d ρ1 e1;cases e;exact⟨H0,ρ,_,_,st,e1,fun v H0' H' t r=>k v H0' H' [] t (.s r) ⟨Mb,fun a h=>by cases h⟩⟩
 ·rename_i ds ρ1 e1;cases e;refine⟨H0,ρ,_,_,st,e1,fun v H0' H' t r=>?_⟩;obtain⟨a,rfl,n,no,n0,xs,y,rs⟩:=r;refine k _ H0' H' [a] t (.l (.inl n) y (.nG rs)) ⟨by simp,fun b hb=>?_⟩;rw[Kd.mp hb];exact⟨n0,no⟩
 ·rename_i i ρ1 e1;split at e
  ·rename_i ds h1;cases e;refine⟨H0,ρ,_,_,st,e1,fun v H0' H' t r=>?_⟩;obtain⟨q,_⟩:=r;obtain⟨a,q',n0,xs,y,rs⟩:=t.st.ow i _ h1;rw[q]at q';cases q';have ow:aq σ ρ1 a:=⟨i,_,h1,q⟩
   refine k _ H0' H' [a] ⟨t.st.mask i,t.stp,fun b z=>?_,fun j z=>trivial⟩ (.l (.inr (t.own a ow)) y (.nG rs)) ⟨by simp,fun b hb=>?_⟩
   ·obtain⟨j,d2,_,z1,z2⟩:=cN z;exact t.own b ⟨j,d2,z1,z2⟩
   ·rw[Kd.mp hb];refine⟨n0,fun z=>?_⟩;obtain⟨j,d2,hj,z1,z2⟩:=cN z;exact hj (t.st.dis j i d2 _ a z1 h1 z2 q)
  ·rename_i d h1;cases e;refine⟨H0,ρ,_,_,st,e1,fun v H0' H' t r=>?_⟩;obtain⟨q,_⟩:=r;obtain⟨u,q',w⟩:=t.st.sh i d h1;rw[q]at q';cases q';exact k _ H0' H' [] t (.s w) ⟨Mb,fun a h=>by cases h⟩
  ·cases e
 ·cases e
theorem DO{Q:List V->Hp->Prop}(h:xq [] σ H Q):zH σ H Q:=by obtain⟨H0,ρ,xs,ρ',st,e,k⟩:=h;cases e;exact k [] H0 H [] (.refl st) .nil ⟨Mb,fun a h=>by cases h⟩
theorem nH.back{σ:L2.St}{ρ ρ1:Dm.Env}{H0 H H1 Hb:Hp}(t:ESt σ ρ H0 H ρ1 H1 Hb){a:Addr}(n:nH σ ρ1 Hb a):nH σ ρ H a:=n.elim (fun z=>.inl (t.stp.gone z)) fun z=>.inr (t.own a z)
theorem rC.app{σ:L2.St}{ρ1 ρ2:Dm.Env}{H1 Hb H2 Hc:Hp}{f fp:List Addr}(hf:f.Nodup)(h1:∀a∈f,(∃o,Hb a=some o)/\¬aq σ ρ1 a)(h2:∀a∈f,H2 a=none/\¬aq σ ρ2 a)(g:rC σ ρ2 H2 fp)(gn:∀a∈fp,nH σ ρ1 Hb a):rC σ ρ2 H2 (f++fp):=by
 refine⟨List.nodup_append.mpr ⟨hf,g.1,fun a ha b hb z=>?_⟩,fun a ha=>(Ks.mp ha).elim (h2 a) (g.2 a)⟩;subst z;obtain⟨⟨o,q1⟩,q2⟩:=h1 a ha;rcases gn a hb with z | z
 ·rw[q1]at z;cases z
 ·exact q2 z
theorem Am{f:Dm.FP}{fs:List Dm.FP}{Q:List V->Hp->Prop}(h:xq (f::fs) σ H Q):oK (tDp f) (xq fs) σ H Q:=by
 obtain⟨H0,ρ,xs,ρ',st,e,k⟩:=h;unfold Dm.pAs at e;split at e
 ·cases e
 rename_i x1 ρ1 e1;split at e
 ·cases e
 rename_i xs1 ρ2 e2;cases e;refine⟨H0,ρ,x1,ρ1,st,e1,fun v H1 Hb f1 t1 r1 g1=>⟨H1,ρ1,xs1,_,t1.st,e2,fun vs H2 Hc f2 t2 r2 g2=>?_⟩⟩;obtain⟨m1,m2⟩:=r1.est t1.st t2 g1.2;refine k (v::vs) H2 Hc (f1++f2) (t1.trans t2) (.cons m1 (r2.mono (au.refl _) (fun a n=>nH.back t1 n) (fun _ _ _ h=>h) fun _ _=>rfl)) (rC.app (H1:=H1) (Hc:=Hc) g1.1 (fun a ha=>⟨?_,(g1.2 a ha).2⟩) m2 g2 fun a ha=>(r2.fpN a ha).1);obtain⟨_,ys,h⟩:=r1.fpN a ha;exact⟨_,h⟩
theorem DQ{fs:List Dm.FP}(h:tDp (Dm.pT fs) σ H Q):CK (xq fs) σ H Q:=by
 obtain⟨H0,ρ,x,ρ',st,e,k⟩:=h;unfold Dm.pT at e;split at e
 ·cases e
 rename_i ps ρ1 e1;split at e
 case isFalse=>cases e
 rename_i hz;cases e;refine⟨H0,ρ,ps,_,st,e1,fun vs H1 Hb fp t1 r1 g1=>⟨by rw[r1.length];exact cu hz,fun a ha=>?_⟩⟩;have g:=aP.l6 (o:=HO.tup vs) t1.st.same ha;have t2:=ESt.grow t1.st g;refine k _ H1 _ fp (t1.trans t2) (.t (.inl (t1.stp.gone ha)) aV (r1.mono g.s0 (fun _ n=>n) (fun b us _ h=>g.s1 b _ h) fun b hb=>?_)) g1;obtain⟨_,xs,h⟩:=r1.fpN b hb;rw[g.s1 b _ h,h]
end
section
variable{X:Cx}{e:Expr}{es:List Expr}{f:FE}{fp:Dm.FP}{fps:List Dm.FP}{pos:Pos}
theorem p_o(h:DE X e f):DP X e (Dm.pO f):=PE.weak h fun _ _ _=>IF
theorem Gy:DPA X [] []:=PA.weak qP fun _ _ _=>DO
theorem xr(h:DP X e fp)(r:DPA X es fps)(hs:starEach (e::es) X.env=(false,eval e X.env)::starEach es X.env:=by rfl):DPA X (e::es) (fp::fps):=PA.weak (jG h r hs) fun _ _ _=>Am
theorem BL{x1}(h:DPA X es fps):DP X (.Tuple es x1 pos) (Dm.pT fps):=PE.weak (vX h) fun _ _ _=>DQ
end
def spP(f:List Dat->Option Dm.Dp):Sp:=fun vs H Q _=>∃H0 ds p,au H0 H/\aI H0 vs ds/\f ds=some p/\∀v H0' H' fp,aP H0 H H0' H'->cP (fun a=>H a=none) H0' H' v p fp->fp.Nodup->(∀a∈fp,H0' a=none)->Q v H'
def tDP(g:Dm.FSP):TS:=fun D σ H=>∃H0 ρ p,aC H0 H σ ρ/\g ρ=some p/\∀σ' ρ' v H0' H' fp,SSt σ ρ H0 H σ' ρ' H0' H'->cP (nH σ ρ H) H0' H' v p fp->fp.Nodup->(∀a∈fp,H0' a=none)->D.rt v H'
noncomputable abbrev DQs(X:Cx)(st:List Stmt)(g:Dm.FSP):Prop:=PSs X st (tDP g)
section
variable{D:Ends}{σ:L2.St}{H:Hp}
section
variable{vs:List V}{ds:List Dat}{g:Dm.FSP}{n m:Nat}{N:List Str}{E:XK}{Q:VK}
theorem IG{f:Dm.FP}(h:tDP (Dm.qR f) D σ H):zz (tDp f) D σ H:=by
 obtain⟨H0,ρ,p,st,e,k⟩:=h;unfold Dm.qR at e;split at e
 ·cases e
 rename_i p' ρ1 e1;cases e;exact⟨H0,ρ,_,ρ1,st,e1,fun v H0' H' fp t r g=>k σ ρ1 v H0' H' fp t.sst r g.1 fun a ha=>(g.2 a ha).1⟩
theorem DR{s:FS}(h:tDP (Dm.cA s g) D σ H):oB (tDS s) (tDP g) D σ H:=by
 obtain⟨H0,ρ,p,st,e,k⟩:=h;unfold Dm.cA at e;split at e
 case h_2=>cases e
 rename_i ρ1 e1;refine⟨H0,ρ,_,st,e1,fun σ1 H1 Hb t1=>⟨H1,ρ1,p,t1.st,e,fun σ2 ρ2 v H2 Hc fp t2 r nd n=>k σ2 ρ2 v H2 Hc fp (t1.trans t2) ?_ nd n⟩⟩;exact r.mono (au.refl _) (fun a z=>z.elim (fun z=>.inl (t1.stp.gone z)) fun z=>(t1.own a z).elim .inr .inl) (fun _ _ _ h=>h) fun _ _=>rfl
theorem iw{m i:Nat}{c:Dm.Cell}(h:(ds.map Dm.Cell.sh++gc m .un)[i]?=some c):(∃d,c=.sh d/\ds[i]?=some d)\/c=.un:=by
 by_cases hi:i<ds.length
 ·rw[JQ (by simpa using hi),JT]at h;cases q:ds[i]? with
  |none=>rw[q]at h;cases h
  |some y=>rw[q]at h;cases h;exact .inl ⟨y,rfl,rfl⟩
 ·rw[J5 (by simpa using hi),Km]at h;split at h<;>cases h
  exact .inr rfl
theorem xu{H0 H:Hp}(hm:N.length=n+m)(hn:ds.length=n)(s:au H0 H)(rs:aI H0 vs ds) :
  aC H0 H (start N vs) (ds.map Dm.Cell.sh++gc m .un)/\∀a,¬aq (start N vs) (ds.map Dm.Cell.sh++gc m .un) a:=by
 have hl:=rs.length;refine⟨⟨s,?_,fun i d h=>?_,fun i d h=>?_,fun i j d e a h1 h2 _ _=>?_⟩,fun a ⟨i,d,h1,_⟩=>?_⟩
 ·unfold L2.start;simp only[JO,JM,K3]
  lia
 ·rcases iw h with⟨d',z,q⟩ | z
  ·cases z;obtain⟨v,hv,r⟩:=rs.get q;have hi:i<vs.length:=(JH.mp hv).1;refine⟨v,?_,r⟩;unfold L2.start;rw[JQ (by simpa using hi),JT,hv];rfl
  ·cases z
 ·rcases iw h with⟨d',z,q⟩ | z<;>cases z
 ·rcases iw h1 with⟨d',z,q⟩ | z<;>cases z
 ·rcases iw h1 with⟨d',z,q⟩ | z<;>cases z
theorem tH{H:Hp}(h:spP (Dm.fnP n m g) vs H Q E):vs.length=n:=by
 obtain⟨H0,ds,z,s,rs,e,k⟩:=h;unfold Dm.fnP at e;split at e
 ·rename_i hl;rw[rs.length];exact hl
 ·cases e
theorem BN(hm:N.length=n+m)(h:spP (Dm.fnP n m g) vs H Q E) :
  tDP g { nx:=fun _ H'=>Q .non H',rt:=Q } (start N vs) H:=by
 obtain⟨H0,ds,p,s,rs,e,k⟩:=h;unfold Dm.fnP at e;split at e
 case isFalse=>cases e
 rename_i hl;obtain⟨st,no⟩:=xu hm hl s rs;refine⟨H0,_,p,st,e,fun σ' ρ' v H0' H' fp t r nd n=>k v H0' H' fp ⟨t.stp.s0,fun a o e=>t.stp.s1 a o e (no a),fun a o e=>(t.stp.s2 a o e).imp id fun q=>q.elim id fun z=>absurd z (no a),t.st.same⟩ ?_ nd n⟩;exact r.mono (au.refl _) (fun a z=>z.elim id fun z=>absurd z (no a)) (fun _ _ _ h=>h) fun _ _=>rfl
end
end
section
variable{X:Cx}{e:Expr}{st:Stmt}{pM:List Stmt}{fp:Dm.FP}{fs:FS}{g:Dm.FSP}{pos:Pos}
theorem q_r(h:DP X e fp):DQs X [.Return (some e) pos] (Dm.qR fp):=jF (PS.weak (qI h) fun _ _ _=>IG)
theorem dZ(h1:DS X st fs)(h2:DQs X pM g):DQs X (st::pM) (Dm.cA fs g):=PSs.weak (dw h1 h2) fun _ _ _=>DR
end
theorem aC.xw{H0 H:Hp}{σ:L2.St}{ρ:Dm.Env}(st:aC H0 H σ ρ)(j:Nat)(v:Option V):aC H0 H (σ.set j v) (ρ.set j .un)/\∀a,aq (σ.set j v) (ρ.set j .un) a->aq σ ρ a:=by
 refine⟨⟨st.same,by rw[Kc,Kc];exact st.len,fun i d h=>?_,fun i d h=>?_,fun i i' d d' a h1 h2 h3 h4=>?_⟩,fun a ⟨i,d,h1,h2⟩=>?_⟩
 ·rcases bg h with⟨_,z⟩ | ⟨hij,h⟩
  ·cases z
  ·obtain⟨v,q,r⟩:=st.sh i d h;exact⟨v,by rw[Jz (Kl hij)];exact q,r⟩
 ·rcases bg h with⟨_,z⟩ | ⟨hij,h⟩
  ·cases z
  ·obtain⟨v,q,r⟩:=st.ow i d h;exact⟨v,by rw[Jz (Kl hij)];exact q,r⟩
 ·rcases bg h1 with⟨_,z⟩ | ⟨q1,h1⟩
  ·cases z
  rcases bg h2 with⟨_,z⟩ | ⟨q2,h2⟩
  ·cases z
  rw[Jz (Kl q1)]at h3;rw[Jz (Kl q2)]at h4;exact st.dis i i' d d' a h1 h2 h3 h4
 ·rcases bg h1 with⟨_,z⟩ | ⟨hij,h1⟩
  ·cases z
  ·rw[Jz (Kl hij)]at h2;exact⟨i,d,h1,h2⟩
structure MS(j:Nat)(σs:L2.St)(ρs:Dm.Env)(H0s Hs:Hp)(σ:L2.St)(ρ:Dm.Env)(H0 H:Hp)(p:Dm.Dp):Prop where
 st:aC H0 H σ ρ
 stp:Stp (aq σs ρs) H0s Hs H0 H
 own:∀a,aq σ ρ a->aq σs ρs a\/Hs a=none
 fx:σ[0]?=σs[0]?
 ex:∃v fp,σ[j]?=some (some v)/\cP (fun a=>Hs a=none) H0 H v p fp/\rC σ ρ H0 fp
section
variable{j:Nat}{σs:L2.St}{ρs:Dm.Env}{H0s Hs:Hp}{σ:L2.St}{ρ ρ':Dm.Env}{H0 H H0' H':Hp}{p:Dm.Dp}
theorem MS.sst(n:MS j σs ρs H0s Hs σ ρ H0 H p):SSt σs ρs H0s Hs σ ρ H0 H:=⟨n.st,n.stp,n.own,n.fx⟩
theorem MS.est(n:MS j σs ρs H0s Hs σ ρ H0 H p)(t:ESt σ ρ H0 H ρ' H0' H'):MS j σs ρs H0s Hs σ ρ' H0' H' p:=by obtain⟨v,fp,h1,h2,h3⟩:=n.ex;obtain⟨m1,m2⟩:=h2.est n.st t h3.2;exact⟨t.st,n.stp.trans t.stp n.own,fun a z=>n.own a (t.own a z),n.fx,v,fp,h1,m1,h3.1,m2⟩
theorem MS.grow(n:MS j σs ρs H0s Hs σ ρ H0 H p)(g:aP H0 H H0' H'):MS j σs ρs H0s Hs σ ρ H0' H' p:=n.est (.grow n.st g)
open Classical in
noncomputable def bor(H0 H:Hp)(N:Addr->Prop):Hp:=fun a=>match H0 a with
 |some o=>some o
 |none=>if N a then H a else none
theorem cZ{N:Addr->Prop}:au H0 (bor H0 H N):=fun a o e=>by unfold bor;rw[e]
theorem nI{N:Addr->Prop}(s:au H0 H):au (bor H0 H N) H:=fun a o e=>by
 unfold bor at e;split at e
 ·rename_i q;cases e;exact s _ _ q
 ·split at e
  ·exact e
  ·cases e
theorem gg{N:Addr->Prop}(s:au H0 H){a:Addr}{o:HO}(n:N a)(h:H a=some o):bor H0 H N a=some o:=by
 unfold bor;split
 ·rename_i o' q;rw[<- h];exact(s _ _ q).symm
 ·rw[if_pos n];exact h
def Look(Hs:Hp)(σ:L2.St)(ρ:Dm.Env)(a:Addr):Prop:=Hs a=none\/aq σ ρ a
theorem nJ{j:Nat}{σ:L2.St}{ρ:Dm.Env}{p:Dm.Dp}{a:Addr}:¬aq σ (Dm.see j ρ p) a:=fun⟨i,d,h1,_⟩=>by
 unfold Dm.see Dm.tG at h1;rw[JT]at h1;cases q:(ρ.set j (.sh p.dat))[i]? with
 |none=>rw[q]at h1;cases h1
 |some c=>rw[q]at h1;cases c<;>cases h1
theorem MS.see(n:MS j σs ρs H0s Hs σ ρ H0 H p):aC (bor H0 H (Look Hs σ ρ)) H σ (Dm.see j ρ p):=by
 obtain⟨v,fp,h1,h2,h3⟩:=n.ex;refine⟨nI n.st.same,by unfold Dm.see Dm.tG;rw[JM,Kc];exact n.st.len,fun i d h=>?_,fun i d h=>?_,fun i i' d d' a z1 z2 z3 z4=>?_⟩
 ·unfold Dm.see Dm.tG at h;rw[JT]at h;cases q:(ρ.set j (.sh p.dat))[i]? with
  |none=>rw[q]at h;cases h
  |some c=>
   rw[q]at h;rcases bg q with⟨rfl,rfl⟩ | ⟨_,q⟩
   ·cases h;exact⟨v,h1,h2.rep cZ fun a o z w=>gg n.st.same (.inl z) w⟩
   ·cases c with
    |un=>cases h
    |sh d'=>cases h;obtain⟨u,w1,w2⟩:=n.st.sh i d q;exact⟨u,w1,w2.mono cZ⟩
    |ow d'=>
     cases h;obtain⟨a,w1,w2,w3⟩:=n.st.ow i d q;have lk:Look Hs σ ρ a:=.inr ⟨i,d,q,w1⟩;refine⟨_,w1,?_⟩;cases d with
     |lst ds=>obtain⟨xs,y,rs⟩:=w3;exact .lst (.inl (gg n.st.same lk y)) (rs.mono cZ)
     |dct ks ds=>obtain⟨xs,y,k,rs⟩:=w3;exact .dct (gg n.st.same lk y) k (rs.mono cZ)
     |dcp ks ds=>obtain⟨xs,y,k,rs⟩:=w3;exact .dcp (gg n.st.same lk y) (k.mono cZ) (rs.mono cZ)
     |_=>exact w3.elim
 ·exact(nJ (σ:=gc (i+1) (some (V.ref 0))) (a:=0) ⟨i,d,h,by rw[Km,if_pos (Nat.lt_succ_self i)]⟩).elim
 ·exact(nJ ⟨i,d,z1,z3⟩).elim
theorem MS.seen(n:MS j σs ρs H0s Hs σ ρ H0 H p){Hb:Hp}(t:ESt σ (Dm.see j ρ p) Hb H ρ' H0' H'):aP H0 H H0 H':=
 ⟨au.refl _,fun a o e=>t.stp.s1 a o e nJ,fun a o e=>.inr e,n.st.same.trans fun a o e=>t.stp.s1 a o e nJ⟩
end
def tDM(j:Nat)(g:Dm.FM):TS:=fun D σ H=>∃σs ρs H0s Hs H0 ρ p o,MS j σs ρs H0s Hs σ ρ H0 H p/\g ρ p=some o/\jR D σs ρs H0s Hs o
noncomputable abbrev DMs(X:Cx)(j:Nat)(st:List Stmt)(g:Dm.FM):Prop:=PSs X st (tDM j g)
section
variable{D:Ends}{σ:L2.St}{H:Hp}{j:Nat}
theorem Gz{t:FT}{fs:FS}{g:Dm.FM}(h:tDM j (Dm.mIf j t fs g) D σ H):oB (zA (tDT t) (tDS fs) sJ) (tDM j g) D σ H:=by
 obtain⟨σs,ρs,H0s,Hs,H0,ρ,p,o,n,e,k⟩:=h;unfold Dm.mIf at e;split at e
 ·cases e
 ·rename_i ρ1 e1;refine⟨_,_,true,ρ1,n.see,e1,fun H1 Hb t1=>?_⟩;dsimp only;rw[if_pos rfl];have n1:=n.grow (n.seen t1);have k1:=k.pre n1.sst;split at e
  ·cases e
  ·rename_i hn;refine⟨H0,ρ,o,n1.st,e,?_⟩;cases o with
   |nx ρ'=>exact(hn ρ' e).elim
   |bk ρ'=>exact k1
   |ct ρ'=>exact k1
   |ret z ρ'=>exact k1
 ·rename_i ρ1 e1;refine⟨_,_,false,ρ1,n.see,e1,fun H1 Hb t1=>?_⟩;dsimp only;rw[if_neg J1];exact⟨σs,ρs,H0s,Hs,H0,ρ,p,o,n.grow (n.seen t1),e,k⟩
theorem MS.wr{σs:L2.St}{ρs:Dm.Env}{H0s Hs:Hp}{ρ:Dm.Env}{H0:Hp}{p:Dm.Dp}(n:MS j σs ρs H0s Hs σ ρ H0 H p){a:Addr}(h1:Hs a=none)(h2:H0 a=none)(h3:¬aq σ ρ a)(o:HO):SSt σs ρs H0s Hs σ ρ H0 (upd H a o):=
 ⟨n.st.aside h2 h3,n.stp.aside h1,n.own,n.fx⟩
end
section
variable{X:Cx}{e c:Expr}{pM:List Stmt}{fs gs:FS}{g:Dm.FM}{pos:Pos}{j:Nat}
theorem II{t:FT}{x:List Stmt}(ht:DT X c t)(ha:DSs X x fs)(hr:DMs X j pM g):DMs X j (.If c x [] pos::pM) (Dm.mIf j t fs g):=PSs.weak (dw (vM ht ha m7) hr) fun _ _ _=>Gz
end
end Br
namespace Dm
mutual
noncomputable def l8:Dat->Bool
 |.tup xs=>tK xs
 |.lst _=>false
 |.dct _ _=>false
 |.dcp _ _=>false
 |.exc _=>false
 |.cU _ _=>false
 |_=>true
noncomputable def tK:List Dat->Bool
 |[]=>true
 |x::r=>l8 x&&tK r
end
mutual
noncomputable def eO:Dp->Bool
 |.s d=>l8 d
 |.l xs=>dO xs
 |.t xs=>dO xs
noncomputable def dO:List Dp->Bool
 |[]=>true
 |x::r=>eO x&&dO r
end
inductive OM where
 |nx (ρ:Env) (p:Dp)
 |rt (d:Dat) (ρ:Env)
noncomputable abbrev FC:=Env->Dp->Option OM
noncomputable def cNx:FC:=fun ρ p=>some (.nx ρ p)
noncomputable def cIf(j:Nat)(t:FT)(a b:FC):FC:=fun ρ p=>match t (see j ρ p) with
 |none=>none
 |some (true,_)=>a ρ p
 |some (false,_)=>b ρ p
end Dm
namespace Br
open PySem PySem.Spec PyProof.Rows L2
mutual
theorem Rep.xx{H0 H1:Hp}(k:∀a vs,H0 a=some (.tup vs)->H1 a=some (.tup vs)):∀{v:V} {d:Dat},Rep H0 v d->Dm.l8 d=true->Rep H1 v d
 |_,_,.non,_=>.non
 |_,_,.bl b,_=>.bl b
 |_,_,.int i,_=>.int i
 |_,_,.str x,_=>.str x
 |_,_,.tup h r,e=>.tup (k _ _ h) (aI.xx k r (by unfold Dm.l8 at e;exact e))
 |_,_,.lst _ _,e=>by unfold Dm.l8 at e;cases e
 |_,_,.dct _ _ _,e=>by unfold Dm.l8 at e;cases e
 |_,_,.dcp _ _ _,e=>by unfold Dm.l8 at e;cases e
 |_,_,.exc _,e=>by unfold Dm.l8 at e;cases e
 |_,_,.cU _ _,e=>by unfold Dm.l8 at e;cases e
 |_,_,.fn a,_=>.fn a
theorem aI.xx{H0 H1:Hp}(k:∀a vs,H0 a=some (.tup vs)->H1 a=some (.tup vs)):∀{vs:List V} {ds:List Dat},aI H0 vs ds->Dm.tK ds=true->aI H1 vs ds
 |_,_,.nil,_=>.nil
 |_,_,.cons h r,e=>by unfold Dm.tK at e;rw[JY]at e;exact .cons (Rep.xx k h e.1) (aI.xx k r e.2)
end
def IJ(D:Ends)(j:Nat)(σs:L2.St)(ρs:Dm.Env)(H0s Hs H0:Hp):Dm.OM->Prop
 |.nx ρ' p'=>∀σ' H0' H',MS j σs ρs H0s Hs σ' ρ' H0' H' p'->au H0 H0'->D.nx σ' H'
 |.rt d ρ'=>∀σ' v H0' H' p',MS j σs ρs H0s Hs σ' ρ' H0' H' p'->Rep H0' v d->D.rt v H'
def tDC(j:Nat)(g:Dm.FC):TS:=fun D σ H=>∃σs ρs H0s Hs H0 ρ p o,MS j σs ρs H0s Hs σ ρ H0 H p/\g ρ p=some o/\IJ D j σs ρs H0s Hs H0 o
noncomputable abbrev DC(X:Cx)(j:Nat)(st:Stmt)(g:Dm.FC):Prop:=PS X st (tDC j g)
noncomputable abbrev DCs(X:Cx)(j:Nat)(st:List Stmt)(g:Dm.FC):Prop:=PSs X st (tDC j g)
section
variable{j:Nat}{σs:L2.St}{ρs:Dm.Env}{H0s Hs:Hp}{σ:L2.St}{ρ ρ':Dm.Env}{H0 H H0' H':Hp}{p q:Dm.Dp}
open Classical in
noncomputable def cpy(Hs H0 H H0' H':Hp):Hp:=fun a=>match H0 a with
 |some o=>some o
 |none=>if H a=none then H' a else match H0' a with
  |some (.tup vs)=>if Hs a=none then some (.tup vs) else none
  |_=>none
theorem xy:au H0 (cpy Hs H0 H H0' H'):=fun a o e=>by unfold cpy;rw[e]
theorem An(s:au H0 H){a:Addr}(h:H a=none):cpy Hs H0 H H0' H' a=H' a:=by unfold cpy;rw[s.free h];dsimp only;rw[if_pos h]
theorem u9{a:Addr}{o:HO}(e:cpy Hs H0 H H0' H' a=some o):H0 a=some o\/(H a=none/\H' a=some o)\/(Hs a=none/\H0' a=some o/\∃vs,o=.tup vs):=by
 unfold cpy at e;split at e
 ·rename_i q;cases e;exact .inl q
 ·split at e
  ·rename_i h;exact .inr (.inl ⟨h,e⟩)
  ·split at e
   ·rename_i vs q;split at e
    ·rename_i h;cases e;exact .inr (.inr ⟨h,q,vs,rfl⟩)
    ·cases e
   ·cases e
end
section
variable{D:Ends}{σ:L2.St}{H:Hp}{j:Nat}
theorem GA(h:tDC j Dm.cNx D σ H):sJ D σ H:=by obtain⟨σs,ρs,H0s,Hs,H0,ρ,p,o,n,e,k⟩:=h;cases e;exact k σ H0 H n (au.refl _)
theorem GB{t:FT}{a b:Dm.FC}(h:tDC j (Dm.cIf j t a b) D σ H):zA (tDT t) (tDC j a) (tDC j b) D σ H:=by
 obtain⟨σs,ρs,H0s,Hs,H0,ρ,p,o,n,e,k⟩:=h;unfold Dm.cIf at e;split at e
 ·cases e
 ·rename_i ρ1 e1;refine⟨_,_,true,ρ1,n.see,e1,fun H1 Hb t1=>?_⟩;dsimp only;rw[if_pos rfl];exact⟨σs,ρs,H0s,Hs,H0,ρ,p,o,n.grow (n.seen t1),e,k⟩
 ·rename_i ρ1 e1;refine⟨_,_,false,ρ1,n.see,e1,fun H1 Hb t1=>?_⟩;dsimp only;rw[if_neg J1];exact⟨σs,ρs,H0s,Hs,H0,ρ,p,o,n.grow (n.seen t1),e,k⟩
end
section
variable{X:Cx}{st:Stmt}{pM:List Stmt}{fs gs:Dm.FC}{g:Dm.FM}{e c:Expr}{f:FE}{pos:Pos}{j:Nat}
theorem GC:DCs X j [] Dm.cNx:=PSs.weak m7 fun _ _ _=>GA
theorem GD(h1:DC X j st fs):DCs X j [st] fs:=jF h1
theorem IK{t:FT}{x y:List Stmt}(ht:DT X c t)(ha:DCs X j x fs)(hb:DCs X j y gs):DC X j (.If c x y pos) (Dm.cIf j t fs gs):=PS.weak (vM ht ha hb) fun _ _ _=>GB
end
end Br
namespace Dm
noncomputable def Jh(f:List Dat->Option Dp)(as:List FE):FP:=fun ρ=>match eAs as ρ with
 |none=>none
 |some (xs,ρ1)=>match tks ρ1 xs with
  |none=>none
  |some (ds,ρ2)=>match f ds with
   |none=>none
   |some p=>some (p,ρ2)
noncomputable def iX(j:Nat)(f:List Dat->Option Dp)(as:List FE)(g:FM):FS:=fun ρ=>if j=0 then none else match eAs as ρ with
 |none=>none
 |some (xs,ρ1)=>match pks ρ1 xs with
  |none=>none
  |some ds=>match f ds with
   |none=>none
   |some p=>if eO p then g (ρ1.set j .un) p else none
end Dm
namespace Br
open PySem PySem.Spec PyProof.Rows L2
section
variable{N N':Addr->Prop}{H3 H0' H:Hp}
mutual
theorem cP.leaf(kn:∀a,N a->N' a)(kt:∀a vs,H3 a=some (.tup vs)->H0' a=some (.tup vs)):∀{v:V} {p:Dm.Dp} {fp:List Addr},cP N H3 H v p fp->Dm.eO p=true->cP N' H0' H v p fp
 |_,_,_,.s r,e=>.s (Rep.xx kt r (by unfold Dm.eO at e;exact e))
 |_,_,_,.l n h r,e=>.l (kn _ n) h (bx.leaf kn kt r (by unfold Dm.eO at e;exact e))
 |_,_,_,.t n h r,e=>.t (kn _ n) h (bx.leaf kn kt r (by unfold Dm.eO at e;exact e))
theorem bx.leaf(kn:∀a,N a->N' a)(kt:∀a vs,H3 a=some (.tup vs)->H0' a=some (.tup vs)):∀{vs:List V} {ps:List Dm.Dp} {fp:List Addr},bx N H3 H vs ps fp->Dm.dO ps=true->bx N' H0' H vs ps fp
 |_,_,_,.nil,_=>.nil
 |_,_,_,.cons h r,e=>by unfold Dm.dO at e;rw[JY]at e;exact .cons (cP.leaf kn kt h e.1) (bx.leaf kn kt r e.2)
end
end
theorem pq{Hs H0 H:Hp}{σ:L2.St}{ρ:Dm.Env}(st:aC H0 H σ ρ):∀{xs:List Dm.Val} {vs:List V} {ds:List Dat},dB Hs H0 H σ ρ vs xs->Dm.pks ρ xs=some ds->aI (bor H0 H (Look Hs σ ρ)) vs ds
 |[],_,ds,.nil,e=>by cases e;exact .nil
 |x::xs,_,ds,.cons h r,e=>by
  unfold Dm.pks at e;split at e
  ·cases e
  rename_i d e1;split at e
  ·cases e
  rename_i ds' e2;cases e;refine .cons ?_ (pq st r e2);have own:∀(a:Addr),Look Hs σ ρ a->Own H0 H a d->Rep (bor H0 H (Look Hs σ ρ)) (.ref a) d:=fun a lk w=>by
   cases d with
   |lst ds=>obtain⟨xs,y,rs⟩:=w;exact .lst (.inl (gg st.same lk y)) (rs.mono cZ)
   |dct ks ds=>obtain⟨xs,y,k,rs⟩:=w;exact .dct (gg st.same lk y) k (rs.mono cZ)
   |dcp ks ds=>obtain⟨xs,y,k,rs⟩:=w;exact .dcp (gg st.same lk y) (k.mono cZ) (rs.mono cZ)
   |_=>exact w.elim
  cases x with
  |val d'=>cases e1;exact Rep.mono cZ h
  |new d'=>cases e1;obtain⟨a,rfl,n,no,n0,w⟩:=h;exact own a (.inl n) w
  |slot i=>
   obtain⟨q,_⟩:=h;unfold Dm.pk at e1;dsimp only at e1;split at e1
   ·rename_i d' hd;cases e1;obtain⟨a,w1,w2,w3⟩:=st.ow i _ hd;rw[q]at w1;cases w1;exact own a (.inr ⟨i,_,hd,q⟩) w3
   ·rename_i d' hd;cases e1;obtain⟨u,w1,w2⟩:=st.sh i _ hd;rw[q]at w1;cases w1;exact w2.mono cZ
   ·cases e1
section
variable{D:Ends}{σ:L2.St}{H:Hp}{j:Nat}
theorem Ao{f:List Dat->Option Dm.Dp}{fs:List FE}{g:Dm.FM}{E:XK}(hj:j<σ.length)(h:tDS (Dm.iX j f fs g) D σ H):oB (ng (sN (spP f) [] E (tDA fs)) (g7 j)) (tDM j g) D σ H:=by
 obtain⟨H0,ρ,o,st,e,k⟩:=h;unfold Dm.iX at e;split at e
 ·cases e
 rename_i hj0;split at e
 ·cases e
 rename_i xs ρ1 e1;split at e
 ·cases e
 rename_i ds e2;split at e
 ·cases e
 rename_i p ep;split at e
 case isFalse=>cases e
 rename_i lk;refine⟨H0,ρ,xs,ρ1,st,e1,fun vs H1 Hb t1 r1=>?_⟩;dsimp only;rw[Ke];refine⟨bor H1 Hb (Look H σ ρ1),ds,p,nI t1.st.same,pq t1.st r1 e2,ep,fun v H3 Hd fp g3 r3 nd n3=>?_⟩;have up:au Hb Hd:=g3.s1;have cpE:∀{a:Addr} {u:HO},cpy H H1 Hb H3 Hd a=some u->H1 a=some u\/(Hb a=none/\Hd a=some u)\/(H a=none/\H3 a=some u/\∃vs,u=.tup vs):=fun e=>u9 e;have kt:∀a us,H3 a=some (.tup us)->cpy H H1 Hb H3 Hd a=some (.tup us):=fun a us h=>by
  rcases g3.s2 a _ h with z | z
  ·rw[An t1.st.same z];exact g3.s3 _ _ h
  ·have hH:=nI t1.st.same _ _ z;unfold bor at z;split at z
   ·rename_i o q;cases z;exact xy _ _ q
   ·rename_i q;split at z
    ·rename_i lk;rcases lk with lk | lk
     ·unfold cpy;rw[q];dsimp only;rw[if_neg (by rw[hH];simp),h];dsimp only;rw[if_pos lk]
     ·exact(t1.st.rB hH lk).elim
    ·cases z
 have lst:∀{a:Addr} {u:HO},H1 a=none->Hb a=some u->(∀us,u≠.tup us)->cpy H H1 Hb H3 Hd a=none:=fun {a u} h0 h nt=>by
  cases z:cpy H H1 Hb H3 Hd a with
  |none=>rfl
  |some w=>
   rcases cpE z with y | ⟨y,_⟩ | ⟨_,y,us,rfl⟩
   ·rw[h0]at y;cases y
   ·rw[h]at y;cases y
   ·have:=g3.s3 _ _ y;rw[up _ _ h]at this;cases this;exact absurd rfl (nt us)
 let H4:Hp:=fun a=>if a∈fp then none else cpy H H1 Hb H3 Hd a
 have h4:∀{a:Addr} {u:HO},H4 a=some u->cpy H H1 Hb H3 Hd a=some u/\a∉fp:=fun {a u} e=>by
  show cpy H H1 Hb H3 Hd a=some u/\_;have e:(if a∈fp then none else cpy H H1 Hb H3 Hd a)=some u:=e;split at e
  ·cases e
  ·rename_i h;exact⟨e,h⟩
 have h4i:∀{a:Addr} {u:HO},cpy H H1 Hb H3 Hd a=some u->a∉fp->H4 a=some u:=fun {a u} e n=>by show (if a∈fp then none else cpy H H1 Hb H3 Hd a)=some u;rw[if_neg n];exact e
 have nfp:∀a∈fp,Hb a=none/\∃ys,Hd a=some (.lst ys):=fun a ha=>r3.fpN a ha;have up4:au H1 H4:=fun a u e'=>h4i (xy _ _ e') fun z=>by have:=t1.st.same _ _ e';rw[(nfp a z).1]at this;cases this
 have st4:aC H4 Hd σ ρ1:=by
  refine⟨fun a u e'=>?_,t1.st.len,fun i d h=>?_,fun i d h=>?_,t1.st.dis⟩
  ·rcases cpE (h4 e').1 with y | ⟨_,y⟩ | ⟨_,y,_⟩
   ·exact up _ _ (t1.st.same _ _ y)
   ·exact y
   ·exact g3.s3 _ _ y
  ·obtain⟨u,z,y⟩:=t1.st.sh i d h;exact⟨u,z,y.mono up4⟩
  ·obtain⟨a,z,n0,y⟩:=t1.st.ow i d h;obtain⟨w,hw⟩:=y.some;refine⟨a,z,?_,y.mono up4 ((up _ _ hw).trans hw.symm)⟩;have:=lst n0 hw fun us e'=>by subst e';exact t1.st.rB hw ⟨i,d,h,z⟩
   show (if a∈fp then none else cpy H H1 Hb H3 Hd a)=none;rw[this];split<;>rfl
 obtain⟨s1,s2⟩:=st4.xw j (some v);refine⟨σ,ρ,H0,H,H4,_,p,o,⟨s1,⟨t1.stp.s0.trans up4,fun a u e' no=>up _ _ (t1.stp.s1 a u e' no),fun a u e'=>?_,fun a u e'=>?_⟩,fun a z=>.inl (t1.own a (s2 a z)),Jz hj0,v,fp,J3 hj,r3.leaf (fun a n=>t1.stp.gone n) (fun a us h=>h4i (kt a us h) fun z=>?_) lk,nd,fun a ha=>⟨?_,fun z=>t1.st.h_ (nfp a ha).1 (s2 a z)⟩⟩,e,k⟩
 ·rcases cpE (h4 e').1 with y | ⟨y,_⟩ | ⟨y,_⟩
  ·exact t1.stp.s2 a u y
  ·exact .inl (t1.stp.gone y)
  ·exact .inl y
 ·obtain⟨o',q⟩:=t1.stp.s3 a u e';exact⟨o',up _ _ q⟩
 ·obtain⟨_,ys,y⟩:=nfp a z;have:=g3.s3 _ _ h;rw[y]at this;cases this
 ·show (if a∈fp then none else cpy H H1 Hb H3 Hd a)=none;rw[if_pos ha]
end
section
variable{X:Cx}{e c:Expr}{es:List Expr}{pM:List Stmt}{fs:List FE}{f:FE}{fp:Dm.FP}{gq:Dm.FSP}{g ga:Dm.FM}{pos p:Pos}{j:Nat}
theorem Aq(j:Nat){k:Nat}{F:Addr}{fd:FuncData}{ps:List Str}{f:List Dat->Option Dm.Dp}{x y:Str}{as:List FE}{pos' cpos:Pos}(hN:X.N.Nodup)(G:bK X.prog X.w X.K X.mg X.base CX0 k F fd ps (spP f))(hr:cj k X.A)(hg:Gl X x)(hm:X.mg x=some (.ref F))(hk:KQ X.K (.ref F)=true)(hb:Binds X.K fd ps [])
  (ha:DA X (e::es) as) (hre:DMs X j pM g) (hi:X.N[j]?=some y:=by rfl) (hx:Loc X.env.scope y:=by trivial) (hs:swapsWith (.Call (.Name x p) (e::es) [] cpos) (some (.Name y pos')) pos.line X.env=pure false:=by rfl)
  (hf:X.fn y=true\/X.env.scope.names.lookup y=some .local:=by trivial) (NV:(x == ("__debug__" : Str))=false:=by decide) (he:starEach (e::es) X.env=(false,eval e X.env)::starEach es X.env:=by rfl) (En:(backTo cpos (starEach es X.env)).any (·.1)=false:=by rfl) :
  DSs X (.Assign [.Name y pos'] (.Call (.Name x p) (e::es) [] cpos) pos::pM) (Dm.iX j f as g):=by
 have h:=dw (qK hN hi hx (nh G hr hg hm hk hb .nil (we (X:=X)) ha NV he En) hs hf) hre;intro cM s σ H D I q;exact h cM s σ H D I (Ao (by rw[I.len];exact(JH.mp hi).1) q)
end
end Br
namespace Br
open PySem PySem.Spec PyProof.Rows L2
open PySem L2
structure b4(K:Js)(x:Str)(st:Stmt)(a:Addr)(fd:FuncData):Prop where
 e:J4 K mainGlobals x=some (some (.ref a))
 F:Fun K x x st a fd
variable{K:Js}{x:Str}{st:Stmt}{a:Addr}{fd:FuncData}{hp:Heap}{mg:Str->Option Value}
theorem bh{oc:Value}{od an:Option Addr}{osl:Array (Option Value)}{kV doc pm cdv ct:Value}(e:J4 K mainGlobals x=some (some (.ref a)))
  (l:K.lookup a=some ⟨oc,od,.func (Kh x x (bV st) (bM st) (ah st) .none kV doc pm an cdv ct),osl⟩) (c:LG K cdv x=true) (k:KQ K (.ref a)=true) :
  b4 K x st a (Kh x x (bV st) (bM st) (ah st) .none kV doc pm an cdv ct):=⟨e,CV l c k⟩
theorem mgo{v:Value}(X:K.In hp)(G:hp.Ns mainGlobals mg)(e:J4 K mainGlobals x=some (some v)):mg x=some v:=PySem.W.mg_of X G e
theorem mno(X:K.In hp)(G:hp.Ns mainGlobals mg)(e:J4 K mainGlobals x=some none):mg x=none:=PySem.W.mg_none_of X G e
theorem b4.m(h:b4 K x st a fd)(X:K.In hp)(G:hp.Ns mainGlobals mg):mg x=some (.ref a):=PySem.W.mg_of X G h.e
theorem b4.IL{y:Str}(h:b4 K x st a fd)(hb:∀(kV doc pm:Value) (an:Option Addr) (cdv ct v:Value),bindArgs (Kh x x (bV st) (bM st) (ah st) .none kV doc pm an cdv ct) ⟨[v],[]⟩=pure [(y,v)])(s:Shared)(v:Value):BindsTo s fd ⟨[v],[]⟩ [(y,v)]:=by obtain⟨oc,od,kV,doc,pm,an,cdv,ct,osl,rfl,lk,IU⟩:=h.F.ex;exact .of_eq (hb kV doc pm an cdv ct v)
theorem hm{j k:Nat}{A:Around}(r:cj k A)(h:j<=k:=by decide):cj j A:=r.mono h
theorem fsc{N P:List Str}{sc:Scope}(h1:sc.kind=.function:=by rfl)(h2:sc.isCoroutine=false:=by rfl)(h3:sc.isGenerator=false:=by rfl)(h4:N.take P.length=P:=by rfl)(h:N.Nodup/\(∀x∈P,sc.names.lookup x=some .local\/sc.names.lookup x=some .cell)/\∀y∈sc.names,y.2≠.free:=by decide +kernel):aF N P sc:=⟨h1,h2,h3,h.1,h4,h.2.1,h.2.2⟩
end Br
namespace Dm
noncomputable def codes(s:String):List Nat:=s.toList.map Char.toNat
noncomputable def shJ:List (List Nat)->List Nat
 |[]=>[]
 |[x]=>x
 |x::y::r=>x++44::32::shJ (y::r)
mutual
noncomputable def shw:Dat->List Nat
 |.non=>codes "None"
 |.bl b=>codes (if b then "True" else "False")
 |.int i=>codes (toString i)
 |.str s=>39::(s++[39])
 |.tup xs=>40::(shJ (fS xs)++(if xs.length == 1 then [44,41] else [41]))
 |.lst xs=>91::(shJ (fS xs)++[93])
 |_=>[]
noncomputable def fS:List Dat->List (List Nat)
 |[]=>[]
 |x::r=>shw x::fS r
end
mutual
noncomputable def pA:Nat->Dat->Bool
 |_,.non=>true
 |_,.bl _=>true
 |_,.int i=>decide (i.natAbs<10 ^ 100)
 |_,.str s=>decide (s=[115,105,110,99,101]\/s=[110,101,118,101,114]\/s=[53]\/s=[48]\/s=[53,58,48,45,48]\/s=[])
 |n+1,.tup xs=>fh n xs
 |n+1,.lst xs=>fh n xs
 |_,_=>false
noncomputable def fh:Nat->List Dat->Bool
 |_,[]=>true
 |n,x::r=>pA n x&&fh n r
end
mutual
noncomputable def rD:Dat->Nat
 |.tup xs=>1+pB xs
 |.lst xs=>1+pB xs
 |_=>1
noncomputable def pB:List Dat->Nat
 |[]=>0
 |x::r=>rD x+pB r
end
noncomputable def DU:List Dat->Option RV
 |[.tup xs]=>if pA 8 (.tup xs)=true/\rD (.tup xs)<=900 then some (.val (.str (shw (.tup xs)))) else none
 |[.lst xs]=>if pA 8 (.lst xs)=true/\rD (.lst xs)<=900 then some (.val (.str (shw (.lst xs)))) else none
 |_=>none
theorem repr_len{n:Nat}(h:n<10 ^ 100):n.repr.toList.length<=100:=by rw[Nat.toList_repr];exact(Nat.length_toDigits_le_iff (by decide) (by decide)).mpr h
theorem pC{i:Int}(h:i.natAbs<10 ^ 100):(shw (.int i)).length<=101:=by
 unfold shw codes;rw[JM,Int.toString_eq_repr];unfold Int.repr;cases i with
 |ofNat m=>exact Nat.le_succ_of_le (repr_len h)
 |negSucc m=>
  dsimp only;rw[String.toList_append,JO];have:=repr_len (n:=m.succ) h;show 1+_<=101
  lia
theorem nK:∀l:List (List Nat),(shJ l).length<=(l.map fun x=>x.length+2).sum
 |[]=>J8 _
 |[x]=>by simp[shJ]
 |x::y::r=>by
  have:=nK (y::r);unfold shJ;simp only[JO,gp,Ds,Lp]at this ⊢
  lia
mutual
theorem nM:∀(n:Nat) (d:Dat),pA n d=true->(shw d).length+2<=110*rD d
 |_,.non,_=>by decide
 |_,.bl b,_=>by cases b<;>decide
 |n,.int i,h=>by
  have:=pC (i:=i) (by cases n<;>exact of_decide_eq_true h);unfold rD
  lia
 |n+1,.tup xs,h=>by have:=j3 n xs h;have j:=nK (fS xs);unfold shw rD;simp only[gp,JO];split<;>simp<;>lia
 |n+1,.lst xs,h=>by
  have:=j3 n xs h;have j:=nK (fS xs);unfold shw rD;simp only[gp,JO];simp
  lia
 |0,.tup xs,h=>by cases h
 |0,.lst xs,h=>by cases h
 |n,.str s,h=>by
  have h:s=[115,105,110,99,101]\/s=[110,101,118,101,114]\/s=[53]\/s=[48]\/s=[53,58,48,45,48]\/s=[]:=by cases n<;>exact of_decide_eq_true h
  rcases h with rfl | rfl | rfl | rfl | rfl | rfl<;>decide
 |0,.dct _ _,h=>by cases h
 |0,.dcp _ _,h=>by cases h
 |_+1,.dct _ _,h=>by cases h
 |_+1,.dcp _ _,h=>by cases h
 |0,.exc _,h=>by cases h
 |0,.cU _ _,h=>by cases h
 |_+1,.exc _,h=>by cases h
 |_+1,.cU _ _,h=>by cases h
 |0,.fn _,h=>by cases h
 |_+1,.fn _,h=>by cases h
theorem j3:∀(n:Nat) (xs:List Dat),fh n xs=true->((fS xs).map fun x=>x.length+2).sum<=110*pB xs
 |_,[],_=>by simp[fS]
 |n,x::r,h=>by
  unfold fh at h;rw[JY]at h;have a:=nM n x h.1;have b:=j3 n r h.2;unfold fS pB;simp only[Ds,Lp]
  lia
end
end Dm
namespace Br
open PySem PySem.Spec PyProof.Rows L2
mutual
noncomputable def pyD:Dat->PyData
 |.bl b=>.bool b
 |.int i=>.int i
 |.str s=>.str ⟨s.toArray⟩
 |.tup xs=>.tuple (fT xs)
 |.lst xs=>.list (fT xs)
 |_=>.none
noncomputable def fT:List Dat->List PyData
 |[]=>[]
 |x::r=>pyD x::fT r
end
theorem pD:∀xs:List Dat,(fT xs).length=xs.length
 |[]=>rfl
 |x::r=>by simp[fT,pD r]
theorem cB(s:String):Str.ofString s=⟨(Dm.codes s).toArray⟩:=Str.ofString_eq_toList s
theorem eS(a b:List Nat):((⟨a.toArray⟩:Str)++(⟨b.toArray⟩:Str))=⟨(a++b).toArray⟩:=by show Str.append _ _=_;unfold Str.append;simp
theorem j4:∀l:List (List Nat),Str.join ", " (l.map fun x=>(⟨x.toArray⟩:Str))=⟨(Dm.shJ l).toArray⟩
 |[]=>rfl
 |[x]=>rfl
 |x::y::r=>by have:=j4 (y::r);show (⟨x.toArray⟩:Str)++(", " : Str)++Str.join ", " ((y::r).map fun x=>(⟨x.toArray⟩:Str))=_;rw[this];have e:((", " : String):Str)=⟨[44,32].toArray⟩:=cB ", ";rw[e,eS x [44,32],eS (x++[44,32]) (Dm.shJ (y::r))];simp[Dm.shJ]
mutual
theorem pF:∀(n:Nat) (d:Dat),Dm.pA n d=true->(pyD d).shown=⟨(Dm.shw d).toArray⟩
 |_,.non,_=>by unfold pyD;rw[PyData.shown_none];exact cB "None"
 |_,.bl b,_=>by
  unfold pyD;rw[PyData.shown_bool];cases b
  ·exact cB "False"
  ·exact cB "True"
 |_,.int i,_=>by unfold pyD;rw[PyData.shown_int];exact cB (toString i)
 |n+1,.tup xs,h=>by
  unfold pyD;rw[PyData.shown_tuple,iY n xs h,j4,pD];have e1:(("(" : String):Str)=⟨[40].toArray⟩:=cB "(";rw[e1,eS [40] (Dm.shJ (Dm.fS xs))];unfold Dm.shw;by_cases q:(xs.length == 1)=true
  ·rw[if_pos q,if_pos q];have e2:((",)" : String):Str)=⟨[44,41].toArray⟩:=cB ",)";rw[e2,eS ([40]++Dm.shJ (Dm.fS xs)) [44,41]];simp
  ·rw[if_neg q,if_neg q];have e2:((")" : String):Str)=⟨[41].toArray⟩:=cB ")";rw[e2,eS ([40]++Dm.shJ (Dm.fS xs)) [41]];simp
 |n+1,.lst xs,h=>by unfold pyD;rw[PyData.shown_list,iY n xs h,j4];have e1:(("[" : String):Str)=⟨[91].toArray⟩:=cB "[";have e2:(("]" : String):Str)=⟨[93].toArray⟩:=cB "]";rw[e1,e2,eS [91] (Dm.shJ (Dm.fS xs)),eS ([91]++Dm.shJ (Dm.fS xs)) [93]];unfold Dm.shw;simp
 |0,.tup xs,h=>by cases h
 |0,.lst xs,h=>by cases h
 |n,.str s,h=>by
  have h:s=[115,105,110,99,101]\/s=[110,101,118,101,114]\/s=[53]\/s=[48]\/s=[53,58,48,45,48]\/s=[]:=by cases n<;>exact of_decide_eq_true h
  unfold pyD;rw[PyData.shown_str];rcases h with rfl | rfl | rfl | rfl | rfl | rfl<;>decide +kernel
 |0,.dct _ _,h=>by cases h
 |0,.dcp _ _,h=>by cases h
 |_+1,.dct _ _,h=>by cases h
 |_+1,.dcp _ _,h=>by cases h
 |0,.exc _,h=>by cases h
 |0,.cU _ _,h=>by cases h
 |_+1,.exc _,h=>by cases h
 |_+1,.cU _ _,h=>by cases h
 |0,.fn _,h=>by cases h
 |_+1,.fn _,h=>by cases h
theorem iY:∀(n:Nat) (xs:List Dat),Dm.fh n xs=true->PyData.shownAll (fT xs)=(Dm.fS xs).map fun x=>(⟨x.toArray⟩:Str)
 |_,[],_=>by unfold fT Dm.fS;rw[PyData.shownAll_nil];rfl
 |n,x::r,h=>by unfold Dm.fh at h;rw[JY]at h;unfold fT Dm.fS;rw[PyData.shownAll_cons,pF n x h.1,iY n r h.2];rfl
end
mutual
theorem xA:∀(n:Nat) (d:Dat),Dm.pA n d=true->(pyD d).showable=true/\(pyD d).hasDict=false/\(pyD d).depth<=n
 |_,.non,_=>by unfold pyD KZ K4 PyData.depth;exact⟨rfl,rfl,J8 _⟩
 |_,.bl b,_=>by unfold pyD KZ K4 PyData.depth;exact⟨rfl,rfl,J8 _⟩
 |n,.int i,h=>by
  unfold pyD KZ K4 PyData.depth;refine⟨decide_eq_true ?_,rfl,J8 _⟩;have hi:i.natAbs<10 ^ 100:=by cases n<;>exact of_decide_eq_true h
  by_cases z:i.natAbs=0
  ·rw[z];decide
  ·exact(L5 z).mpr (Nat.lt_trans hi (by decide))
 |n+1,.tup xs,h=>by obtain⟨h1,h2,h3⟩:=fits_of n xs h;unfold pyD KZ K4 PyData.depth;exact⟨h1,h2,by lia⟩
 |n+1,.lst xs,h=>by obtain⟨h1,h2,h3⟩:=fits_of n xs h;unfold pyD KZ K4 PyData.depth;exact⟨h1,h2,by lia⟩
 |0,.tup xs,h=>by cases h
 |0,.lst xs,h=>by cases h
 |n,.str s,h=>by unfold pyD KZ K4 PyData.depth;exact⟨rfl,rfl,J8 _⟩
 |0,.dct _ _,h=>by cases h
 |0,.dcp _ _,h=>by cases h
 |_+1,.dct _ _,h=>by cases h
 |_+1,.dcp _ _,h=>by cases h
 |0,.exc _,h=>by cases h
 |0,.cU _ _,h=>by cases h
 |_+1,.exc _,h=>by cases h
 |_+1,.cU _ _,h=>by cases h
 |0,.fn _,h=>by cases h
 |_+1,.fn _,h=>by cases h
theorem fits_of:∀(n:Nat) (xs:List Dat),Dm.fh n xs=true->LJ (fT xs)=true/\LU (fT xs)=false/\KG (fT xs)<=n
 |_,[],_=>by unfold fT LJ LU KG;exact⟨rfl,rfl,J8 _⟩
 |n,x::r,h=>by unfold Dm.fh at h;rw[JY]at h;obtain⟨a1,a2,a3⟩:=xA n x h.1;obtain⟨b1,b2,b3⟩:=fits_of n r h.2;unfold fT LJ LU KG;exact⟨by rw[a1,b1];rfl,by rw[a2,b2];rfl,Nat.max_le.mpr ⟨a3,b3⟩⟩
end
section
variable{cM:List (Addr×Obj)}{s:Shared}{σ:L2.St}{X:Cx}{H:Hp}
mutual
theorem pG(I:Inv X cM σ H s):∀(n:Nat) (d:Dat) (v:V) (u:Value),Dm.pA n d=true->Rep H v d->RelV v u->∃as,Reads s.heap u (pyD d) as
 |_,.non,v,u,_,r,q=>by cases r;cases q;unfold pyD;exact⟨_,.none⟩
 |_,.bl b,v,u,_,r,q=>by cases r;cases q;unfold pyD;exact⟨_,.bool b⟩
 |_,.int i,v,u,_,r,q=>by cases r;obtain⟨t,rfl⟩:=q;unfold pyD;exact⟨_,.int i t⟩
 |n+1,.tup ds,v,u,h,r,q=>by
  cases r with
  |@tup a xs _ hq rs=>cases q;obtain⟨its,rv,⟨o,ho,hc,m,hd⟩,hz⟩:=I.tuple (SqT.of (K:=X.K) hq);obtain⟨as,ha⟩:=iZ I n ds xs its h rs rv;unfold pyD;exact⟨as,.tuple ho hc hd (by simpa using ha)⟩
 |n+1,.lst ds,v,u,h,r,q=>by
  cases r with
  |@lst a xs _ hq rs=>cases q;obtain⟨its,rv,⟨o,m,ho,hc,_,hd⟩,hz⟩:=I.list (.inl hq);obtain⟨as,ha⟩:=iZ I n ds xs its h rs rv;unfold pyD;exact⟨_,.list ho hc hd (by simpa using ha)⟩
 |0,.tup xs,_,_,h,_,_=>by cases h
 |0,.lst xs,_,_,h,_,_=>by cases h
 |n,.str s,v,u,_,r,q=>by cases r;obtain⟨t,rfl⟩:=q;unfold pyD;exact⟨_,.str _ t⟩
 |0,.dct _ _,_,_,h,_,_=>by cases h
 |0,.dcp _ _,_,_,h,_,_=>by cases h
 |_+1,.dct _ _,_,_,h,_,_=>by cases h
 |_+1,.dcp _ _,_,_,h,_,_=>by cases h
 |0,.exc _,_,_,h,_,_=>by cases h
 |0,.cU _ _,_,_,h,_,_=>by cases h
 |_+1,.exc _,_,_,h,_,_=>by cases h
 |_+1,.cU _ _,_,_,h,_,_=>by cases h
 |0,.fn _,_,_,h,_,_=>by cases h
 |_+1,.fn _,_,_,h,_,_=>by cases h
theorem iZ(I:Inv X cM σ H s):∀(n:Nat) (ds:List Dat) (vs:List V) (us:List Value),Dm.fh n ds=true->aI H vs ds->Vals vs us->∃as,ReadsAll s.heap us (fT ds) as
 |_,[],vs,us,_,r,q=>by cases r;cases q;unfold fT;exact⟨_,.nil⟩
 |n,d::ds,vs,us,h,r,q=>by
  cases r with
  |cons r rs=>
   cases q with
   |cons q qs=>unfold Dm.fh at h;rw[JY]at h;obtain⟨as,ha⟩:=pG I n d _ _ h.1 r q;obtain⟨bs,hb⟩:=iZ I n ds _ _ h.2 rs qs;unfold fT;exact⟨_,.cons ha hb⟩
end
end
def DV:List V->Hp->VK->Prop:=fun xs H Q=>∃(a:Addr) (d:Dat),xs=[.ref a]/\Dm.pA 8 d=true/\(Dm.shw d).length<=sizeLine/\Rep H (.ref a) d/\Q (.str ⟨(Dm.shw d).toArray⟩) H
theorem pH{X:Cx}{k:Nat}(hr:cj k X.A):dg X (.type "str") DV:=by intro cM s σ H xs us Q I r h;obtain⟨a,d,rfl,hd,hz,rd,q⟩:=h;obtain⟨u,rfl,rx⟩:=vals1 r;cases rx;obtain⟨as,ha⟩:=pG I 8 d _ _ hd rd rfl;obtain⟨f1,f2,f3⟩:=xA 8 d hd;have sh:=pF 8 d hd;have un:=hr.un;refine str_of_reads ha f1 (fun z=>by rw[f2]at z;cases z) hr.gd (by lia) (fun _ _ e=>e) (fun h' u tk kp=>?_) (by rw[sh];exact JU (by show (Dm.shw d).toArray.size<=_;simp) hz);rw[sh];exact⟨.str ⟨(Dm.shw d).toArray⟩,H,I.kept (t':=tk) kp,⟨u,rfl⟩,q⟩
theorem DX:CallD DV Dm.DU:=by
 intro H0 H vs ds z Q s rs e k;have sz:110*900<=sizeLine:=by decide
 unfold Dm.DU at e;split at e
 ·split at e
  ·rename_i hk;cases e;cases rs with
   |cons r rr=>
    cases rr;rcases r with r | ⟨a,_,w⟩
    ·cases r with
     |tup q rs=>have rp:Rep H (.ref _) (.tup _):=.tup (s _ _ q) (rs.mono s);have:=Dm.nM 8 _ hk.1;have h2:=hk.2;exact⟨_,_,rfl,hk.1,by lia,rp,k _ H0 H (aP.refl s) (.str _)⟩
    ·exact J7 w
  ·cases e
 ·split at e
  ·rename_i hk;cases e;cases rs with
   |cons r rr=>cases rr;obtain⟨a,us,rfl,qa,ra⟩:=b9 s r;have rp:Rep H (.ref a) (.lst _):=.lst qa (ra.mono s);have:=Dm.nM 8 _ hk.1;have h2:=hk.2;exact⟨_,_,rfl,hk.1,by lia,rp,k _ H0 H (aP.refl s) (.str _)⟩
  ·cases e
 ·cases e
end Br
namespace Dm
noncomputable def Ar:Dp->Option (List Dat)
 | .l xs=>xs.foldr (fun x a=>match x,a with
  |.s d,some ds=>some (d::ds)
  |_,_=>none) (some [])
 |_=>none
end Dm
namespace Br
open PySem PySem.Spec PyProof.Rows L2
theorem As{x:Dm.Dp}{r:List Dat}(h:Dm.Ar x=some r):x=.l (r.map .s):=by
 cases x with
 |s d=>cases h
 |t xs=>cases h
 |l xs=>
  have key:∀ (xs:List Dm.Dp) (r:List Dat),xs.foldr (fun x a=>match x,a with
    |Dm.Dp.s d,some ds=>some (d::ds)
    |_,_=>none) (some [])=some r->xs=r.map .s:=by
   intro xs
   induction xs with
   |nil=>intro r h;cases h;rfl
   |cons x q ih=>
    intro r h;rw[List.foldr_cons]at h;split at h
    ·rename_i d ds hd;cases h;rw[ih ds hd];rfl
    ·cases h
  rw[key xs r h]
end Br
namespace Dm
noncomputable abbrev FQ:=Env->Dp->Option Dp
noncomputable def xB(c:FC)(g:FQ):FQ:=fun ρ p=>match c ρ p with
 |some (.nx ρ1 p1)=>g ρ1 p1
 |_=>none
end Dm
namespace Br
open PySem PySem.Spec PyProof.Rows L2
theorem Au{l z:Nat}(h:z<l):Dm.ixN l (z:Int)=some z:=by unfold Dm.ixN;rw[if_pos (by lia),if_pos (by lia)];rfl
theorem DY{us:List V}{z:Nat}{u:V}(h:us[z]?=some u):atI us (z:Int)=some u:=by show (L2.ixN us.length (z:Int)).bind (fun j=>us[j]?)=_;rw[<- C4,Au (JH.mp h).1];exact h
def tDQ(j:Nat)(g:Dm.FQ):TS:=fun D σ H=>∃σs ρs H0s Hs H0 ρ p q,MS j σs ρs H0s Hs σ ρ H0 H p/\g ρ p=some q/\∀σ' ρ' v H0' H' fp,SSt σs ρs H0s Hs σ' ρ' H0' H'->cP (nH σs ρs Hs) H0' H' v q fp->fp.Nodup->(∀a∈fp,H0' a=none)->D.rt v H'
section
variable{D:Ends}{σ:L2.St}{H:Hp}{j:Nat}{b:Bool}{Q:List V->Hp->Prop}
theorem DZ{c:Dm.FC}{g:Dm.FQ}(h:tDQ j (Dm.xB c g) D σ H):oB (tDC j c) (tDQ j g) D σ H:=by
 obtain⟨σs,ρs,H0s,Hs,H0,ρ,p,q,n,e,k⟩:=h;unfold Dm.xB at e;split at e
 case h_2=>cases e
 rename_i ρ1 p1 e1;exact⟨σs,ρs,H0s,Hs,H0,ρ,p,.nx ρ1 p1,n,e1,fun σ' H0' H' n' _=>⟨σs,ρs,H0s,Hs,H0',ρ1,p1,q,n',e,k⟩⟩
end
section
variable{X:Cx}{e:Expr}{es:List Expr}{f:FE}{pos:Pos}{j:Nat}{b:Bool}
noncomputable abbrev DHs(X:Cx)(j:Nat)(st:List Stmt)(g:Dm.FQ):Prop:=PSs X st (tDQ j g)
theorem h_c{st:Stmt}{pM:List Stmt}{c:Dm.FC}{g:Dm.FQ}(h:DC X j st c)(hr:DHs X j pM g):DHs X j (st::pM) (Dm.xB c g):=PSs.weak (dw h hr) fun _ _ _=>DZ
end
end Br
set_option maxHeartbeats 4000000
namespace Ts
open PySem PyProof.Rows
variable{A:Around}{E:Value->Shared->Prop}{s:Shared}{prog:Program}{w:World}
end Ts
namespace Br
open PySem PySem.Spec PyProof.Rows L2
theorem okQ{P:Program}{w:World}{K:Js}{mg:Str->Option Value}{base:Heap}{x qual:Str}{st:Stmt}{f:Addr}{fd:FuncData}{N ps:List Str}{k n m:Nat}{body:FS}(F:Fun K x qual st f fd)(S:aF N ps (ah st))
  (hb:∀(cdv:Value) (A:Around) (outer:List Env) (s:Shared) (H:Hp) (E:XK),cj k (A.deeper (envOfC qual (ah st) s.heap.objs.size f cdv))->DSs (qQ CX0 P w K mg base N qual (ah st) f cdv A outer s H E).nox (bM st) body)
  (hn:ps.length=n:=by rfl) (hm:N.length=n+m:=by rfl):bK P w K mg base CX0 (k+1) f fd ps (spD (Dm.fn n m body)):=
 F.ok S (fun vs H Q E h=>(iQ h).trans hn.symm) fun cdv A outer s H vs Q E hr h=>⟨_,hb cdv A outer s H E hr,wB hm h⟩
end Br
namespace Dm
open Classical in
noncomputable def dP:List Dat->Option RV
 |[.non]=>some (.val (.str (codes "None")))
 |[.bl b]=>some (.val (.str (codes (if b then "True" else "False"))))
 |[.int i]=>if i.natAbs<10 ^ 100 then some (.val (.str (codes (toString i)))) else none
 |[.str s]=>some (.val (.str s))
 |[.dct [] []]=>some (.val (.str (codes "{}")))
 |ds=>DU ds
end Dm
namespace Br
open PySem PySem.Spec PyProof.Rows L2
def BO:List V->Hp->VK->Prop:=fun xs H Q=>(xs=[.non]/\Q (.str ⟨(Dm.codes "None").toArray⟩) H)\/(∃b,xs=[.bl b]/\Q (.str ⟨(Dm.codes (if b then "True" else "False")).toArray⟩) H)\/(∃i:Int,xs=[.int i]/\i.natAbs<10 ^ 100/\Q (.str ⟨(Dm.codes (toString i)).toArray⟩) H) \/
 (∃s,xs=[.str s]/\Q (.str s) H)\/(∃a,xs=[.ref a]/\H a=some (.dK [])/\Q (.str ⟨(Dm.codes "{}").toArray⟩) H)\/DV xs H Q
theorem u_{X:Cx}{k:Nat}(hr:cj k X.A):dg X (.type "str") BO:=by
 intro cM s σ H xs us Q I r h;rcases h with⟨rfl,q⟩ | ⟨b,rfl,q⟩ | ⟨i,rfl,hi,q⟩ | ⟨x,rfl,q⟩ | ⟨a,rfl,ha,q⟩ | h
 ·obtain⟨u,rfl,rx⟩:=vals1 r;cases rx;exact P.str_of_none ⟨.str ⟨(Dm.codes "None").toArray⟩,H,I.tok _,⟨_,congrArg (Lf · _) (cB "None")⟩,q⟩
 ·obtain⟨u,rfl,rx⟩:=vals1 r;cases rx;refine P.str_of_bool ⟨.str ⟨(Dm.codes (if b then "True" else "False")).toArray⟩,H,I.tok _,⟨s.toks,?_⟩,q⟩;cases b
  ·exact congrArg (Lf · _) (cB "False")
  ·exact congrArg (Lf · _) (cB "True")
 ·obtain⟨u,rfl,tk,rfl⟩:=vals1 r;refine P.str_of_int ?_ ⟨.str ⟨(Dm.codes (toString i)).toArray⟩,H,I.tok _,⟨_,congrArg (Lf · _) (cB _)⟩,q⟩;by_cases z:i.natAbs=0
  ·rw[z];decide
  ·exact(L5 z).mpr (JS hi (JU (Nat.pow_le_pow_left (by decide:10<=2 ^ 4) 100) (by rw[<- Nat.pow_mul];exact Nat.pow_le_pow_right (by decide) (by decide))))
 ·obtain⟨u,rfl,tk,rfl⟩:=vals1 r;exact P.str_of_str ⟨.str x,H,I,⟨_,rfl⟩,q⟩
 ·obtain⟨u,rfl,rx⟩:=vals1 r;cases rx;obtain⟨hz,hS,vs,rv,m⟩:=Fw I.hok ha;cases rv;obtain⟨o,es,ep,ho,xd,hd,_,pr,_⟩:=m;have hes:es.toList=[]:=by cases hq:es.toList with
   |nil=>rfl
   |cons y ys=>rw[hq]at pr;cases pr
  have un:=hr.un;have rd:Reads s.heap (.ref a) (.dict []) (a::[]++[]):=.dict ho xd.1 hd (by rw[hes];exact .nil) (by rw[hes];exact .nil);have sh:(PyData.dict []).shown=⟨(Dm.codes "{}").toArray⟩:=by rw[PyData.shown_dict];decide +kernel
  have dp:(PyData.dict []).depth<=2:=by decide
  refine str_of_reads rd (by decide) (fun _ z=>?_) hr.gd (by lia) (fun _ _ e=>e) (fun h' u tk kp=>?_) (by rw[sh];decide)
  ·have:sysModules=a:=by simpa using z
   rw[<- this]at hS;simp at hS
  ·rw[sh];exact⟨.str ⟨(Dm.codes "{}").toArray⟩,H,I.kept (t':=tk) kp,⟨u,rfl⟩,q⟩
 ·exact pH hr cM s σ H xs us Q I r h
theorem Av:CallD BO Dm.dP:=by
 intro H0 H vs ds z Q s rs e k;unfold Dm.dP at e;split at e
 ·cases e;cases rs with
  |cons r rr=>
   cases rr;rcases r with r | ⟨a,_,w⟩
   ·cases r;exact .inl ⟨rfl,k _ H0 H (aP.refl s) (.str _)⟩
   ·exact J7 w
 ·cases e;cases rs with
  |cons r rr=>
   cases rr;rcases r with r | ⟨a,_,w⟩
   ·cases r;exact .inr (.inl ⟨_,rfl,k _ H0 H (aP.refl s) (.str _)⟩)
   ·exact J7 w
 ·split at e
  case isFalse=>cases e
  rename_i hi;cases e;cases rs with
  |cons r rr=>
   cases rr;rcases r with r | ⟨a,_,w⟩
   ·cases r;exact .inr (.inr (.inl ⟨_,rfl,hi,k _ H0 H (aP.refl s) (.str _)⟩))
   ·exact J7 w
 ·cases e;cases rs with
  |cons r rr=>
   cases rr;rcases r with r | ⟨a,_,w⟩
   ·cases r;exact .inr (.inr (.inr (.inl ⟨_,rfl,k _ H0 H (aP.refl s) (.str _)⟩)))
   ·exact J7 w
 ·cases e;cases rs with
  |cons r rr=>
   cases rr;refine .inr (.inr (.inr (.inr (.inl ?_))));rcases r with r | ⟨a,rfl,xs,q,e1,e2⟩
   ·cases r with
    |dct q e1 e2=>
     rename_i a kvs;have:kvs=[]:=by cases kvs with
      |nil=>rfl
      |cons _ _=>cases e1
     subst this;exact⟨a,rfl,s _ _ q,k _ H0 H (aP.refl s) (.str _)⟩
   ·have:xs=[]:=by cases xs with
     |nil=>rfl
     |cons _ _=>cases e1
    subst this;exact⟨a,rfl,q,k _ H0 H (aP.refl s) (.str _)⟩
 ·exact .inr (.inr (.inr (.inr (.inr (DX H0 H vs _ z Q s rs e k)))))
section
variable{X:Cx}{e:Expr}{fs:List FE}{p pos:Pos}{k:Nat}
theorem gh(hr:cj k X.A)(hg:Gl X "str")(hm:X.mg "str" = none)(ha:DA X [e] fs)(he:starEach [e] X.env=[(false,eval e X.env)]:=by rfl)(En:(backTo pos (starEach [] X.env)).any (·.1)=false:=by rfl):DE X (.Call (.Name "str" p) [e] [] pos) (Dm.eB Dm.dP fs):=z8 (u_ hr) Av (by rfl) hg hm ha (he:=he) (En:=En)
end
end Br
namespace L2
open PySem PySem.Spec PyProof.Rows
section
variable{P:Program}{w:World}{K:Js}{mg:Str->Option Value}{base:Heap}{N:List Str}{qual:Str}{scope:Scope}{f:Addr}{cd:Value}{A:Around}{outer:List Env}{s₀:Shared}{H₀:Hp}{E:XK}{C:Addr}
 {cM:List (Addr×Obj)} {σ:St} {H:Hp} {s:Shared}
end
end L2
namespace Ts
open PySem PyProof.Rows
variable{A:Around}{E:Value->Shared->Prop}{s:Shared}{prog:Program}{w:World}
end Ts
namespace Dm
noncomputable def eG:Dat->Dat->Option RV
 |.str a,.str b=>if a.length+b.length<=SZ then some (.val (.str (a++b))) else none
 |_,_=>none
noncomputable def vc:Dat->Dat->Option RV
 | .str a,.int i=>if a.length≤SZ then (match ixN a.length i with
  |none=>none
  |some m=>match a[m]? with
   |none=>none
   |some c=>some (.val (.str [c]))) else none
 |_,_=>none
noncomputable def xC:Dat->Dat->Option RV
 |.str [c],.str b=>vB (b.contains c)
 |_,_=>none
noncomputable def mO:List Dat->Option RV
 |[.str a]=>if a.length<=SZ then vI a.length else none
 |_=>none
noncomputable def l9(a:List Nat):Nat:=a.foldl (fun n c=>n*10+(c-48)) 0
noncomputable def dh(c:Nat):Bool:=decide (48<=c)&&decide (c<=57)
noncomputable def j5:List Dat->Option RV
 |[.str a]=>if a≠[]/\a.all dh=true/\a.length<=600 then vI (l9 a) else none
 |_=>none
noncomputable def aj(c:Nat):List Nat->List Nat×List Nat×List Nat
 |[]=>([],[],[])
 |x::r=>if x=c then ([],[c],r) else ((x::(aj c r).1),(aj c r).2)
noncomputable def dG:List Nat->Dat->Option RV
 |s,.str [c]=>if s.length<=SZ then some (.val (.tup [.str (aj c s).1,.str (aj c s).2.1,.str (aj c s).2.2])) else none
 |_,_=>none
noncomputable def aJ(c d:Nat):List Nat->List Nat->List (List Nat)
 |kM,[]=>[kM]
 |kM,[x]=>[kM++[x]]
 |kM,x::y::r=>if x=c/\y=d then kM::aJ c d [] r else aJ c d (kM++[x]) (y::r)
noncomputable def i7:List Nat->Dat->Option RV
 |s,.str [c,d]=>if s.length<=SZ/\c<128/\d<128 then some (.new (.lst ((aJ c d [] s).map .str))) else none
 |_,_=>none
noncomputable def iy:List Dat->Option (List (List Nat))
 |[]=>some []
 |.str s::r=>(iy r).map (s::·)
 |_::_=>none
noncomputable def bY(y:List Nat):List (List Nat)->List Nat
 |[]=>[]
 |[x]=>x
 |x::r=>x++y++bY y r
noncomputable def jn:List Nat->Dat->Option RV
 | y,.lst ds=>(match iy ds with
  |some ss=>if (ss.map fun s=>s.length+y.length).sum<=SZ then some (.val (.str (bY y ss))) else none
  |none=>none)
 |_,_=>none
noncomputable def eS2(g:List Nat->Dat->Option RV)(a b:FE):FE:=fun ρ=>match a ρ with
 |none=>none
 |some (x,ρ1)=>match pk ρ1 x with
  | some (.str s)=>(match b ρ1 with
   |none=>none
   |some (y,ρ2)=>match pk ρ2 y with
    |none=>none
    |some d=>match g s d with
     |none=>none
     |some v=>some (v.ay,ρ2))
  |_=>none
noncomputable def iTx(a:FE):FI:=fun ρ=>match a ρ with
 |none=>none
 |some (x,ρ1)=>match pk ρ1 x with
  |some (.str s)=>if s.all (fun c=>decide (c<128))=true then some (s.map fun c=>.str [c],ρ1) else none
  |_=>none
end Dm
namespace Tx
open PySem PySem.Builtin PySem.Builtin.Str PySem.StrLaws
noncomputable def d_(y:List Nat):List Nat->Nat->Nat->Nat->List Nat
 |[],_,_,_=>[]
 |c::r,i,free,lim=>if (0<lim/\free<=i)/\y.isPrefixOf (c::r)=true then i::d_ y r (i+1) (i+y.length) (lim-1) else d_ y r (i+1) free lim
theorem Aw(x y:List Nat)(i:Nat)(h:i<x.length)(hy:y≠[]):(i+y.length<=x.length/\subAt ⟨x.toArray⟩ ⟨y.toArray⟩ i=true)↔y.isPrefixOf (x.drop i)=true:=by
 rw[List.isPrefixOf_iff_prefix,List.prefix_iff_eq_take];have e:subAt ⟨x.toArray⟩ ⟨y.toArray⟩ i=true↔y=(x.drop i).take y.length:=by
  unfold subAt;rw[beq_iff_eq];have l:(Str.mk y.toArray).length=y.length:=by simp[Str.length]
  rw[l];show x.toArray.extract i (i+y.length)=y.toArray↔_;rw[<- Array.toList_inj];simp only[Array.toList_extract,List.extract_eq_drop_take'];rw[List.drop_take,Nat.add_sub_cancel_left];exact eq_comm
 rw[e];constructor
 ·exact fun q=>q.2
 ·intro q;refine⟨?_,q⟩;have:=congrArg List.length q;rw[KA,KC]at this
  lia
theorem nN(x y:List Nat)(hy:y≠[])(limit:Nat):∀(m i:Nat) (st:Array Nat×Nat),i+m=x.length ->
  (forIn (List.range' i (m+1)) st (occBody ⟨x.toArray⟩ ⟨y.toArray⟩ x.length limit)).run.fst.toList=st.fst.toList++d_ y (x.drop i) i st.snd (limit-st.fst.size)
 |0,i,st,h=>by
  have yl:(Str.mk y.toArray).length=y.length:=by simp[Str.length]
  have y1:0<y.length:=List.length_pos_iff.mpr hy;rw[List.range'_succ,Ly];unfold occBody;rw[if_neg (by rintro⟨⟨_,q⟩,_⟩;rw[yl]at q;lia),List.drop_eq_nil_of_le (by lia)];simp[d_]
 |m+1,i,st,h=>by
  have yl:(Str.mk y.toArray).length=y.length:=by simp[Str.length]
  have hi:i<x.length:=by lia
  have sp:=Aw x y i hi hy;rw[List.range'_succ,Ly];rw[KP hi]at sp ⊢;rw[d_];by_cases q:(0<limit-st.fst.size/\st.snd<=i)/\y.isPrefixOf (x[i]::x.drop (i+1))=true
  ·have p:=sp.mpr q.2;rw[if_pos q];have e:occBody ⟨x.toArray⟩ ⟨y.toArray⟩ x.length limit i st=pure (Ku (st.fst.push i,i+y.length)):=by
    unfold occBody;rw[if_pos ⟨⟨⟨by lia,q.1.2⟩,by rw[yl];exact p.1⟩,p.2⟩,yl]
   rw[e];have:=nN x y hy limit m (i+1) (st.fst.push i,i+y.length) (by lia);simp only[pure_bind];rw[this];simp[Array.toList_push,Nat.sub_sub]
  ·rw[if_neg q];have e:occBody ⟨x.toArray⟩ ⟨y.toArray⟩ x.length limit i st=pure (Ku (st.fst,st.snd)):=by
    unfold occBody;rw[if_neg];rintro⟨⟨⟨q1,q2⟩,q3⟩,q4⟩;rw[yl]at q3;exact q ⟨⟨by lia,q2⟩,sp.mp ⟨q3,q4⟩⟩
   rw[e];have:=nN x y hy limit m (i+1) (st.fst,st.snd) (by lia);simp only[pure_bind];rw[this]
theorem j6(x y:List Nat)(hy:y≠[])(limit:Nat):occurrences ⟨x.toArray⟩ ⟨y.toArray⟩ 0 x.length limit=d_ y x 0 0 limit:=by rw[occ_eq];have:=nN x y hy limit x.length 0 (#[],0) (by lia);rw[Nat.sub_zero];rw[this];simp
theorem mP(y:List Nat):∀(l:List Nat) (i free:Nat),d_ y l i free 0=[]
 |[],_,_=>rfl
 |c::r,i,free=>by rw[d_,if_neg (by lia),mP y r]
theorem nP(c:Nat):∀(l:List Nat) (i free:Nat),free<=i->(c∉l/\d_ [c] l i free 1=[]/\Dm.aj c l=(l,[],[]))\/∃a b,l=a++c::b/\d_ [c] l i free 1=[i+a.length]/\Dm.aj c l=(a,[c],b)
 |[],i,free,_=>.inl ⟨by simp,rfl,rfl⟩
 |x::r,i,free,h=>by
  rw[d_,Dm.aj];by_cases e:x=c
  ·subst e;rw[if_pos ⟨⟨by lia,h⟩,by simp[Le]⟩,if_pos rfl,mP];exact .inr ⟨[],r,rfl,rfl,rfl⟩
  ·rw[if_neg (by rintro⟨_,q⟩;simp[Le]at q;exact e q.symm),if_neg e];rcases nP c r (i+1) free (by lia) with⟨h1,h2,h3⟩ | ⟨a,b,h1,h2,h3⟩
   ·refine .inl ⟨?_,h2,by rw[h3]⟩;intro z;rcases JV.mp z with z | z
    ·exact e z.symm
    ·exact h1 z
   ·refine .inr ⟨x::a,b,by rw[h1];rfl,by rw[h2,gp];congr 1;lia,by rw[h3]⟩
theorem cE(x:List Nat)(i j:Nat):strSub ⟨x.toArray⟩ i j=⟨((x.drop i).take (j-i)).toArray⟩:=by
 unfold strSub
 congr 1
 rw[<- Array.toList_inj];simp only[Array.toList_extract,List.extract_eq_drop_take']
theorem len_list(x:List Nat):(Str.mk x.toArray).length=x.length:=by simp[Str.length]
theorem vd(x:List Nat)(c:Nat):Txt.partition ⟨x.toArray⟩ ⟨[c].toArray⟩=(⟨(Dm.aj c x).1.toArray⟩,⟨(Dm.aj c x).2.1.toArray⟩,⟨(Dm.aj c x).2.2.toArray⟩):=by
 unfold Txt.partition;rw[len_list,j6 x [c] (by simp)];rcases nP c x 0 0 (JL _) with⟨_,h2,h3⟩ | ⟨a,b,h1,h2,h3⟩
 ·rw[h2,h3];rfl
 ·rw[h2,h3];dsimp only;rw[cE,cE,len_list,h1];refine Prod.ext ?_ (Prod.ext rfl ?_)
  ·simp
  ·simp[JF];exact List.take_of_length_le (by lia)
theorem in_list(x:List Nat)(c:Nat):(!(occurrences ⟨x.toArray⟩ ⟨[c].toArray⟩ 0 (Str.mk x.toArray).length 1).isEmpty)=x.contains c:=by
 rw[len_list,j6 x [c] (by simp)];rcases nP c x 0 0 (JL _) with⟨h1,h2,_⟩ | ⟨a,b,h1,h2,_⟩
 ·rw[h2];simp[h1]
 ·rw[h2,h1];simp
theorem gj(x:List Nat)(c d:Nat):∀(pM kM:List Nat) (i a free lim:Nat),x.drop i=pM->a<=i->i<=x.length->kM=(x.drop a).take (i-a)->free<=i->pM.length<lim ->
  (partsFrom ⟨x.toArray⟩ 2 a (d_ [c,d] pM i free lim)).map (fun s:Str=>s.cps.toList)=Dm.aJ c d kM pM
 |[],kM,i,a,free,lim,hr,ha,hi,hacc,hf,hl=>by
  have:i=x.length:=by
   have:=congrArg List.length hr;rw[KC]at this;simp at this
   lia
  rw[d_,Dm.aJ,partsFrom,len_list,cE,hacc,this];simp
 |[z],kM,i,a,free,lim,hr,ha,hi,hacc,hf,hl=>by
  have e1:i+1=x.length:=by
   have:=congrArg List.length hr;rw[KC]at this;simp at this
   lia
  rw[d_,if_neg (by rintro⟨_,q⟩;simp[Le]at q),d_,Dm.aJ,partsFrom,len_list,cE,hacc,<- e1];have hz:x[i]?=some z:=by
   have:=congrArg (·[0]?) hr
   simpa using this
  have e2:i+1-a=(i-a)+1:=by lia
  rw[e2,List.take_succ,LK,show a+(i-a)=i by lia,hz];simp
 |z::w::r,kM,i,a,free,lim,hr,ha,hi,hacc,hf,hl=>by
  have len:i+(r.length+2)=x.length:=by
   have:=congrArg List.length hr;rw[KC]at this;simp at this
   lia
  have hz:x[i]?=some z:=by
   have:=congrArg (·[0]?) hr
   simpa using this
  have d1:x.drop (i+1)=w::r:=by
   have:=congrArg (List.drop 1) hr
   simpa [Mc,Mg] using this
  have d2:x.drop (i+2)=r:=by
   have:=congrArg (List.drop 2) hr
   simpa [Mc,Mg] using this
  rw[d_,Dm.aJ];by_cases q:z=c/\w=d
  ·obtain⟨rfl,rfl⟩:=q;rw[if_pos ⟨⟨by lia,hf⟩,by simp[Le]⟩,if_pos ⟨rfl,rfl⟩,partsFrom,Ds,cE];have e:d_ [z,w] (w::r) (i+1) (i+[z,w].length) (lim-1)=d_ [z,w] r (i+2) (i+2) (lim-1):=by
    rw[d_,if_neg (by rintro⟨⟨_,q⟩,_⟩;simp at q)];rfl
   rw[e];have ih:=gj x z w r [] (i+2) (i+2) (i+2) (lim-1) d2 (JL _) (by lia) (by simp) (JL _) (by simp at hl;lia);rw[ih,hacc]
  ·rw[if_neg (by rintro⟨_,p⟩;simp[Le]at p;exact q ⟨p.1.symm,p.2.symm⟩),if_neg q];exact gj x c d (w::r) (kM++[z]) (i+1) a free lim d1 (by lia) (by lia) (by
    have e2:i+1-a=(i-a)+1:=by lia
    rw[e2,List.take_succ,LK,show a+(i-a)=i by lia,hz,hacc];simp) (by lia) (by simp at hl ⊢;lia)
 termination_by pM=>pM.length
theorem pI(c d:Nat)(x:List Nat)(h:x.length<2):Dm.aJ c d [] x=[x]:=by
 match x,h with
 |[],_=>rfl
 |[z],_=>rfl
theorem Ax(x y:List Nat)(h:∀c∈y,c<128):¬Str.strKind ⟨x.toArray⟩<Str.strKind ⟨y.toArray⟩:=by
 have:Str.strKind ⟨y.toArray⟩=1:=by
  unfold Str.strKind;rw[if_pos];simp;intro c hc;have:=h c hc
  lia
 rw[this];unfold Str.strKind;split
 ·decide
 ·split<;>decide
theorem split_list(x:List Nat)(c d:Nat)(hc:c<128)(hd:d<128):(Txt.split ⟨x.toArray⟩ ⟨[c,d].toArray⟩).map (fun s:Str=>s.cps.toList)=Dm.aJ c d [] x:=by
 unfold Txt.split;rw[len_list,len_list,j6 x [c,d] (by simp)];have main:=gj x c d x [] 0 0 0 (x.length+1) rfl (JL _) (J8 _) (by simp) (JL _) (by lia);by_cases h:x.length<2
 ·rw[if_pos (by simp[h]),pI c d x h];simp
 ·rw[if_neg (by simp[h];exact Nat.le_of_not_lt (Ax x [c,d] (by intro z hz;simp at hz;lia)))];by_cases e:(d_ [c,d] x 0 0 (x.length+1)).isEmpty=true
  ·rw[if_pos e,<- main];have:d_ [c,d] x 0 0 (x.length+1)=[]:=by simpa using e
   rw[this,partsFrom,len_list,cE];simp
  ·rw[if_neg e,partsBetween_eq];exact main
end Tx
namespace Br
open PySem PySem.Spec PyProof.Rows L2
section
variable{X:Cx}{s:List Nat}{H:Hp}{σ:L2.St}
theorem bZ{H0 H:Hp}{v:V}(r:iP H0 H v (.str s)):v=.str ⟨s.toArray⟩:=by
 rcases r with r | ⟨a,_,w⟩
 ·cases r;rfl
 ·exact J7 w
theorem cQ(s:List Nat):(Str.mk s.toArray).length=s.length:=Tx.len_list s
def GF:R2:=fun x y H Q=>∃i j,x=.str i/\y=.str j/\i.length+j.length<=sizeLine/\Q (.str (i++j)) H
theorem Ay:OpD GF Dm.eG:=by
 intro H0 H x y dx dy z Q s rx ry e k;unfold Dm.eG at e;split at e
 ·rename_i a b;split at e
  case isFalse=>cases e
  rename_i hz;cases e;cases bZ rx;cases bZ ry;refine⟨_,_,rfl,rfl,by rw[cQ,cQ];exact cu hz,?_⟩;have:(Str.mk a.toArray++Str.mk b.toArray)=Str.mk (a++b).toArray:=by show Str.mk (a.toArray++b.toArray)=_;simp
  rw[this];exact k _ H0 H (aP.refl s) (.str _)
 ·cases e
def IM:R2:=fun x y H Q=>∃i j,x=.str i/\y=.str j/\Q (.bl (!(KL j i 0 j.length 1).isEmpty)) H
theorem D3:OpD IM Dm.xC:=by
 intro H0 H x y dx dy z Q s rx ry e k;unfold Dm.xC at e;split at e
 ·rename_i c b;cases e;cases bZ rx;cases bZ ry;refine⟨_,_,rfl,rfl,?_⟩;rw[Tx.in_list b c];exact k _ H0 H (aP.refl s) (.bl _)
 ·cases e
theorem D4:OpD Fo Dm.vc:=by
 intro H0 H x y dx dy z Q s rx ry e k;unfold Dm.vc at e;split at e
 ·rename_i a i;split at e
  case isFalse=>cases e
  rename_i hz;split at e
  ·cases e
  rename_i m hm;split at e
  ·cases e
  rename_i c hc;cases e;cases bZ rx;cases aB ry;refine⟨_,i,c,rfl,rfl,by rw[cQ];exact cu hz,?_,k _ H0 H (aP.refl s) (.str [c])⟩;show L2.atI a i=some c;have:L2.ixN a.length i=some m:=hm;unfold L2.atI;rw[this];exact hc
 ·cases e
theorem Az:CallD (fun xs H Q=>∃z,xs=[.str z]/\z.length<=sizeLine/\Q (.int z.length) H) Dm.mO:=by
 intro H0 H vs ds z Q s rs e k;unfold Dm.mO at e;split at e
 ·rename_i a;split at e
  case isFalse=>cases e
  rename_i hz;cases e;cases rs with
  |cons r rr=>cases rr;cases bZ r;refine⟨_,rfl,by rw[cQ];exact cu hz,?_⟩;rw[cQ];exact k _ H0 H (aP.refl s) (.int _)
 ·cases e
theorem ve:dg X (.type "int") (fun xs H Q=>∃a:List Nat,xs=[.str ⟨a.toArray⟩]/\a≠[]/\a.all Dm.dh=true/\a.length<=600/\Q (.int (Dm.l9 a:Nat)) H):=by
 intro cM s σ H xs us Q I r h;obtain⟨a,rfl,h1,h2,h3,q⟩:=h;obtain⟨u,rfl,rx⟩:=vals1 r;obtain⟨t,rfl⟩:=rx;have dig:PySem.NumText.AllDigits a:=fun c hc=>by
  have:=JZ.mp h2 c hc;unfold Dm.dh at this
  simpa using this
 have rd:PySem.intText? ⟨a.toArray⟩=some ((Ll a:Nat):Int):=PySem.intText_digits (x:=⟨a.toArray⟩) (by simpa using dig) (by simpa using h1) (by rw[cQ];lia);have ev:Ll a=Dm.l9 a:=rfl;rw[ev]at rd;exact PySem.W.KIN.call_text rd (by rw[cQ];lia) ⟨.int (Dm.l9 a:Nat),H,I.tok _,⟨_,rfl⟩,q⟩
def MD(r:V->List V->Hp->VK->Prop)(g:List Nat->Dat->Option RV):Prop:=∀(H0 H:Hp) (s:List Nat) (y:V) (dy:Dat) (z:RV) (Q:VK),au H0 H->iP H0 H y dy->g s dy=some z ->
 (∀v H0' H',aP H0 H H0' H'->qU H H0' H' v z->Q v H')->r (.str ⟨s.toArray⟩) [y] H Q
theorem IP{K:Js}{r:V->List V->Hp->VK->Prop}{g:List Nat->Dat->Option RV}{fa fb:FE}{Q:VK}(o:MD r g)(h:tD (Dm.eS2 g fa fb) σ H Q):tBM K "str" r (tD fa) (tDA [fb]) σ H Q:=by
 obtain⟨H0,ρ,x,ρ',st,e,k⟩:=h;unfold Dm.eS2 at e;split at e
 ·cases e
 rename_i x1 ρ1 e1;split at e
 case h_2=>cases e
 rename_i s0 p0;split at e
 ·cases e
 rename_i y1 ρ2 e2;split at e
 ·cases e
 rename_i d p1;split at e
 ·cases e
 rename_i v hv;cases e;refine⟨H0,ρ,x1,ρ1,st,e1,fun v1 H1 Hb t1 r1=>?_⟩;cases bZ (r1.look t1.st p0);refine⟨rfl,H1,ρ1,[y1],_,t1.st,by unfold Dm.eAs;rw[e2];rfl,fun vs H2 Hc t2 r2=>?_⟩;cases r2 with
 |cons r2 rr=>cases rr;refine o H2 Hc s0 _ d v Q t2.st.same (r2.look t2.st p1) hv fun w H3 Hd g3 r3=>?_;exact k w H3 Hd (t1.trans (t2.trans (.grow t2.st g3))) ((r3.toV t2.st).early fun a n=>(t1.trans t2).stp.gone n)
theorem mQ:∀l:List (Str×Tok),Vals ((l.map (·.1)).map V.str) (strValues l)
 |[]=>.nil
 |p::l=>.cons ⟨p.2,rfl⟩ (mQ l)
theorem tL:∀{ss:List (List Nat)} {us:List Value},Vals (ss.map fun s=>V.str ⟨s.toArray⟩) us->∃l:List (Str×Tok),us=strValues l/\l.map (·.1)=ss.map fun s=>Str.mk s.toArray
 |[],_,.nil=>⟨[],rfl,rfl⟩
 |s::ss,_,.cons r rr=>by obtain⟨t,rfl⟩:=r;obtain⟨l,h1,h2⟩:=tL rr;refine⟨(⟨s.toArray⟩,t)::l,by rw[h1];rfl,by rw[Ds,h2];rfl⟩
theorem D5{l:List Str}{ss:List (List Nat)}(h:l.map (fun s:Str=>s.cps.toList)=ss):l=ss.map fun s=>Str.mk s.toArray:=by subst h;rw[Kr];exact(Mi _).symm.trans (La fun s _=>by cases s;simp)
def BP:V->List V->Hp->VK->Prop:=fun x xs H Q=>∃(a:List Nat) (c:Nat),x=.str ⟨a.toArray⟩/\xs=[.str ⟨[c].toArray⟩]/\a.length<=sizeLine /\
 ∀p,H p=none->Q (.ref p) (upd H p (.tup [.str ⟨(Dm.aj c a).1.toArray⟩,.str ⟨(Dm.aj c a).2.1.toArray⟩,.str ⟨(Dm.aj c a).2.2.toArray⟩]))
theorem AA:MtR X "str.partition" BP:=by
 intro cM s σ H x vs v us Q I rx rv h;obtain⟨a,c,rfl,rfl,hz,q⟩:=h;obtain⟨t,rfl⟩:=rx;obtain⟨u,rfl,ru⟩:=rv.one;obtain⟨t',rfl⟩:=ru;refine call_meets F.slot_str_partition (typeIs_str _ _ _) F.entry_str_partition (F.args_str_partition_2 _ _) (meets_str_partition _ _ t t' rfl (by rw[cQ];exact hz)) ?_;have pl:=Tx.vd a c;have lay:∀(A B C:Str) (ta tb tc:Tok) (tk:Nat),(A,B,C)=Txt.partition ⟨a.toArray⟩ ⟨[c].toArray⟩->EP X cM σ Q (.ref s.heap.objs.size) { s with toks:=tk,heap:=s.heap.push { cls:=.type "tuple",data:=.seq [.str A ta,.str B tb,.str C tc].toArray } }:=fun A B C ta tb tc tk e=>by
  rw[pl]at e;injection e with e1 e
  injection e with e2 e3
  subst e1 e2 e3;exact⟨.ref _,_,I.laid (t':=tk) (fun _ _ q=>JN _ q) (JL _) (show bX X.prog X.w _ _ _ (.tup [.str ⟨(Dm.aj c a).1.toArray⟩,.str ⟨(Dm.aj c a).2.1.toArray⟩,.str ⟨(Dm.aj c a).2.2.toArray⟩]) from ⟨by show 3<=sizeLine;decide,_,.cons ⟨ta,rfl⟩ (.cons ⟨tb,rfl⟩ (.cons ⟨tc,rfl⟩ .nil)),⟨_,J0 _ rfl,rfl,0,rfl⟩⟩),rfl,q _ I.fresh⟩
 unfold Txt.partition at lay;revert lay;cases KL ⟨a.toArray⟩ ⟨[c].toArray⟩ 0 (Str.mk a.toArray).length 1 with
 |nil=>intro lay;exact lay _ _ _ _ _ _ _ rfl
 |cons i r=>intro lay;exact lay _ _ _ _ _ _ _ rfl
theorem AB:MD BP Dm.dG:=by
 intro H0 H s y dy z Q sm ry e k;unfold Dm.dG at e;split at e
 ·rename_i c;split at e
  case isFalse=>cases e
  rename_i hz;cases e;cases bZ ry;refine⟨s,c,rfl,rfl,cu hz,fun p hp=>?_⟩;have g:=aP.zO (o:=.tup [.str ⟨(Dm.aj c s).1.toArray⟩,.str ⟨(Dm.aj c s).2.1.toArray⟩,.str ⟨(Dm.aj c s).2.2.toArray⟩]) sm hp;exact k _ _ _ g (.tup aV (.cons (.str _) (.cons (.str _) (.cons (.str _) .nil))))
 ·cases e
def xD:V->List V->Hp->VK->Prop:=fun x xs H Q=>∃(a:List Nat) (c d:Nat),x=.str ⟨a.toArray⟩/\xs=[.str ⟨[c,d].toArray⟩]/\a.length+1<=sizeLine/\c<128/\d<128 /\
 ∀p,H p=none->Q (.ref p) (upd H p (.lst ((Dm.aJ c d [] a).map fun s=>V.str ⟨s.toArray⟩)))
theorem split_len(c d:Nat):∀(s kM:List Nat),(Dm.aJ c d kM s).length<=s.length+1
 |[],kM=>by rw[Dm.aJ];simp
 |[x],kM=>by rw[Dm.aJ];simp
 |x::y::r,kM=>by
  rw[Dm.aJ];split
  ·have:=split_len c d r [];simp;lia
  ·have:=split_len c d (y::r) (kM++[x]);simp at this ⊢;lia
 termination_by s=>s.length
theorem xE:MtR X "str.split" xD:=by
 intro cM s σ H x vs v us Q I rx rv h;obtain⟨a,c,d,rfl,rfl,hz,hc,hd,q⟩:=h;obtain⟨t,rfl⟩:=rx;obtain⟨u,rfl,ru⟩:=rv.one;obtain⟨t',rfl⟩:=ru;have sl:=Tx.split_list a c d hc hd;have AY:=split_len c d a [];have hS:Txt.split ⟨a.toArray⟩ ⟨[c,d].toArray⟩=(Dm.aJ c d [] a).map fun s=>Str.mk s.toArray:=D5 sl;have lay:∀(l:List (Str×Tok)) (tk:Nat),l.map (·.1)=Txt.split ⟨a.toArray⟩ ⟨[c,d].toArray⟩->EP X cM σ Q (.ref s.heap.objs.size) { s with toks:=tk,heap:=s.heap.push { cls:=.type "list",data:=.seq (strValues l).toArray } }:=fun l tk e=>by have rl:=mQ l;rw[e,hS,Kr]at rl;exact⟨.ref _,_,I.laid (t':=tk) (o:=HO.lst ((Dm.aJ c d [] a).map fun s:List Nat=>V.str (Str.mk s.toArray))) (fun _ _ q=>JN _ q) (JL _) ⟨by rw[JM];lia,_,0,rl,J0 _ rfl⟩,rfl,q _ I.fresh⟩
 have hy:((Str.mk [c,d].toArray).length == 0)=false:=rfl;have hx:(Str.mk a.toArray).length<=sizeLine:=by rw[cQ];lia
 have IQ:=lay;unfold Txt.split at IQ;cases h1:(decide ((Str.mk a.toArray).length<(Str.mk [c,d].toArray).length)||decide (Builtin.Str.strKind (Str.mk a.toArray)<Builtin.Str.strKind (Str.mk [c,d].toArray)))
 ·cases hf:(KL (Str.mk a.toArray) (Str.mk [c,d].toArray) 0 (Str.mk a.toArray).length ((Str.mk a.toArray).length+1)).isEmpty
  ·have hp:Txt.split ⟨a.toArray⟩ ⟨[c,d].toArray⟩=Builtin.Str.partsBetween (Str.mk a.toArray) (KL (Str.mk a.toArray) (Str.mk [c,d].toArray) 0 (Str.mk a.toArray).length ((Str.mk a.toArray).length+1)) (Str.mk [c,d].toArray).length:=by
    unfold Txt.split;rw[if_neg (by rw[h1];decide),if_neg (by rw[hf];decide)]
   refine call_meets Lq (typeIs_str _ _ _) LV (LL _ _) (meets_str_split_sep _ _ t t' h1 hy hf hx (by rw[<- hp,hS,JM];lia)) ?_;rw[strsFrom_eq];exact lay _ _ ((numbered_texts _ _).trans hp.symm)
  ·refine call_meets Lq (typeIs_str _ _ _) LV (LL _ _) (meets_str_split_not_found _ _ t t' h1 hy hf) ?_;exact lay [(⟨a.toArray⟩,t)] _ (by unfold Txt.split;rw[if_neg (by rw[h1];decide),if_pos hf];rfl)
 ·refine call_meets Lq (typeIs_str _ _ _) LV (LL _ _) (meets_str_split_cannot_occur _ _ t t' h1) ?_;exact lay [(⟨a.toArray⟩,t)] _ (by unfold Txt.split;rw[if_pos h1];rfl)
theorem mR:∀ss:List (List Nat),aI H (ss.map fun s=>V.str ⟨s.toArray⟩) (ss.map Dat.str)
 |[]=>.nil
 |s::ss=>.cons (.str s) (mR ss)
theorem xF:MD xD Dm.i7:=by
 intro H0 H s y dy z Q sm ry e k;unfold Dm.i7 at e;split at e
 ·rename_i c d;split at e
  case isFalse=>cases e
  rename_i hz;cases e;cases bZ ry;refine⟨s,c,d,rfl,rfl,JU (Nat.succ_le_succ hz.1) (by decide),hz.2.1,hz.2.2,fun p hp=>?_⟩;have g:=aP.l6 (o:=HO.lst ((Dm.aJ c d [] s).map fun s=>V.str ⟨s.toArray⟩)) sm hp;exact k _ _ _ g ⟨p,rfl,hp,sm.free hp,_,aV,mR _⟩
 ·cases e
theorem j7(y:List Nat):∀(x:List Nat) (r:List (List Nat)),Dm.bY y (x::r)=x++(r.map (y++·)).flatten
 |x,[]=>by rw[Dm.bY];simp
 |x,z::r=>by rw[Dm.bY,j7 y z r];simp;intro h;cases h
theorem tM(y:List Nat):∀(r:List (List Nat)) (kM:List Nat),(r.map fun s=>Str.mk s.toArray).foldl (fun(kM:Array Nat) (p:Str)=>kM++(Str.mk y.toArray).cps++p.cps) kM.toArray=(kM++(r.map (y++·)).flatten).toArray
 |[],kM=>by simp
 |z::r,kM=>by
  rw[Ds,L0];have:kM.toArray++(Str.mk y.toArray).cps++(Str.mk z.toArray).cps=(kM++y++z).toArray:=by simp
  rw[this,tM y r];simp
theorem join_list(y:List Nat)(ss:List (List Nat)):Txt.join ⟨y.toArray⟩ (ss.map fun s=>Str.mk s.toArray)=⟨(Dm.bY y ss).toArray⟩:=by
 unfold Txt.join Builtin.Str.glued;cases ss with
 |nil=>rfl
 |cons s r=>
  congr 1
  show (r.map fun s=>Str.mk s.toArray).foldl _ s.toArray=_;rw[tM,j7]
theorem pJ(y:List Nat):∀(ss:List (List Nat)) (n:Nat),(ss.map fun s=>Str.mk s.toArray).foldl (fun(n:Nat) (s:Str)=>n+s.length+(Str.mk y.toArray).length) n=n+(ss.map fun s=>s.length+y.length).sum
 |[],n=>by simp
 |s::ss,n=>by rw[Ds,L0,pJ y ss,cQ,cQ];simp;lia
def rJoin:V->List V->Hp->VK->Prop:=fun x xs H Q=>∃(y:List Nat) (l:Addr) (ss:List (List Nat)),x=.str ⟨y.toArray⟩/\xs=[.ref l]/\Rd H l (.lst (ss.map fun s=>V.str ⟨s.toArray⟩))/\(ss.map fun s=>s.length+y.length).sum<=Dm.SZ/\Q (.str ⟨(Dm.bY y ss).toArray⟩) H
theorem AD:MtR X "str.join" rJoin:=by
 intro cM s σ H x vs v us Q I rx rv h;obtain⟨y,l,ss,rfl,rfl,hB,hz,q⟩:=h;obtain⟨t,rfl⟩:=rx;obtain⟨u,rfl,ru⟩:=rv.one;cases ru;obtain⟨z,its,n,r,e⟩:=hB.ok I.hok;obtain⟨ls,rfl,h2⟩:=tL r;refine SC.join (l:=ls) (texts:=ss.map fun s=>Str.mk s.toArray) ⟨_,e,rfl,_,rfl⟩ h2 ?_ fun t' k=>?_
 ·unfold JoinOk;have:(ss.map fun s=>Str.mk s.toArray).toArray.foldl (fun(n:Nat) (s:Str)=>n+s.length+(Str.mk y.toArray).length) 0=(ss.map fun s=>s.length+y.length).sum:=by
   rw[<- Array.foldl_toList];show (ss.map fun s=>Str.mk s.toArray).foldl _ 0=_;rw[pJ,JF]
  rw[this];unfold Builtin.Str.tooLong;have:(ss.map fun s=>s.length+y.length).sum<=sizeLine:=cu hz;simp;exact this
 ·rw[join_list];exact⟨.str ⟨(Dm.bY y ss).toArray⟩,H,I.tok _,⟨_,rfl⟩,q⟩
theorem j8:∀{us:List V} {ds:List Dat} {ss:List (List Nat)},aI H us ds->Dm.iy ds=some ss->us=ss.map fun s=>V.str ⟨s.toArray⟩
 |_,[],ss,.nil,e=>by rw[Dm.iy]at e;cases e;rfl
 |_,d::ds,ss,.cons r rr,e=>by
  cases d with
  |str s=>
   rw[Dm.iy]at e;cases hq:Dm.iy ds with
   |none=>rw[hq]at e;cases e
   |some q=>rw[hq]at e;cases e;cases r;rw[j8 rr hq];rfl
  |_=>rw[Dm.iy]at e;cases e;intro s h;cases h
theorem AE:MD rJoin Dm.jn:=by
 intro H0 H s y dy z Q sm ry e k;unfold Dm.jn at e;split at e
 ·rename_i ds;split at e
  ·rename_i ss hs;split at e
   case isFalse=>cases e
   rename_i hz;cases e;obtain⟨a,us,rfl,qa,ra⟩:=b9 sm ry;have:=j8 ra hs;subst this;exact⟨s,a,ss,rfl,rfl,qa,hz,k _ H0 H (aP.refl sm) (.str _)⟩
  ·cases e
 ·cases e
noncomputable def Itx(s:List Nat):It:=⟨fun i _=>i<s.length,fun i H x H'=>H'=H/\∃c,s[i]?=some c/\x=.str ⟨#[c]⟩,fun i _=>s.length<=i⟩
theorem vf{P:Program}{w:World}{K:Js}{tg:Expr}(it:Addr)(s:List Nat)(t:Tok):Turn P w K tg (Itx s) [it] it (fun i h=>h.IsStrIter it "str_ascii_iterator" ⟨s.toArray⟩ t i) where
 mem:=by simp
 obj:=fun i h st b hb=>by
  have e:b=it:=by simpa using hb
  subst e;obtain⟨o,ho,_,hd⟩:=st;exact⟨o,ho,fun v z=>by rw[hd]at z;cases z⟩
 keep:=fun i h h' st k=>by obtain⟨o,ho,r⟩:=st;exact⟨o,k it (by simp) _ ho,r⟩
 item:=by intro X hP hw hK hc i cM sh σ H E I hf st hg;subst hP hw hK;obtain⟨f0,f1,f2,f3,f4,f5⟩:=hf it (by simp);have W:=Walks.strAscii (prog:=X.prog) (w:=X.w) (I.ok.hd hc) it ⟨s.toArray⟩ t;refine W.item i sh _ _ (by have:i<s.length:=hg;simpa using this) st fun v h' tk hv st' kk=>?_;obtain⟨c,u,hc',rfl⟩:=hv;have I1:Inv X cM σ H { sh with heap:=h',toks:=tk }:=I.turned (fun b o hb e=>kk b o (by simpa using hb) e) f0 f1 f3 f4 f5;obtain⟨o,ho,hcl,hd⟩:=st';exact⟨_,rfl,mq (s:={ sh with heap:=h',toks:=tk }) (n := "str_ascii_iterator") ho hcl hd (by decide) ⟨.str ⟨#[c]⟩,H,I1,⟨u,rfl⟩,⟨rfl,c,by simpa using hc',rfl⟩,⟨o,ho,hcl,hd⟩,fun b hb=>(hf b hb).1⟩⟩
 done:=by intro X hP hw hK hc i cM sh σ H E I hf st hg;subst hP hw hK;obtain⟨f0,f1,f2,f3,f4,f5⟩:=hf it (by simp);refine wpAny_pyNext_ascii_end (I.ok.hd hc) st ?_ fun h' eb=>⟨rfl,I.turned (t':=sh.toks) (fun b o hb e=>eb b o hb e) f0 f1 f3 f4 f5⟩;have:s.length<=i:=hg;simp[this]
 self:=fun _ _ _ _ _ st h=>wpAny_pyIter_striter_ascii st h
def BQ(te:TE):TI:=fun σ H R=>te σ H fun x H1=>∃s:List Nat,x=.str ⟨s.toArray⟩/\s.all (fun c=>decide (c<128))=true/\R (Itx s) H1
theorem AF{tg l:Expr}{tl:TE}(hl:PE X l tl):PI X tg l (BQ tl):=by
 intro cM s σ H R I h;refine thn (hl cM s σ H _ I h) fun v s1 ⟨x,H1,I1,r1,q1⟩=>?_;obtain⟨a,rfl,ha,q⟩:=q1;obtain⟨t,rfl⟩:=r1;refine wpAny_pyIter_ascii (by simpa using ha) ?_;refine⟨s1.heap.objs.size,[s1.heap.objs.size],_,_,H1,rfl,I1.kept (t':=s1.toks) fun b o e=>JN _ e,vf _ a t,⟨_,J0 _ rfl,rfl,rfl⟩,fun b hb=>?_,q⟩;have e:b=s1.heap.objs.size:=by simpa using hb
 subst e;exact I1.oF (JL _) (I1.hok.fresh (JL _))
theorem AG{H0:Hp}:JW (Itx s) H0 (s.map fun c=>Dat.str [c]):=by
 intro H0' H s0 s1;refine⟨fun i hi=>(show s.length<=i by simpa using hi),fun i d e=>?_⟩;rw[JT]at e;cases hc:s[i]? with
 |none=>rw[hc]at e;cases e
 |some c=>rw[hc]at e;cases e;refine⟨(JH.mp hc).1,fun x H' y=>?_⟩;obtain⟨rfl,c',hc',rfl⟩:=y;rw[hc]at hc';cases hc';exact⟨H0',aP.refl s1,.str [c]⟩
theorem GG{R:It->Hp->Prop}{f:FE}(h:tDI (Dm.iTx f) σ H R):BQ (tD f) σ H R:=by
 obtain⟨H0,ρ,ys,ρ',st,e,k⟩:=h;unfold Dm.iTx at e;split at e
 ·cases e
 rename_i x ρ1 e1;split at e
 ·rename_i s hp;split at e
  ·rename_i ha;cases e;refine⟨H0,ρ,x,_,st,e1,fun v H1 Hb t1 r1=>?_⟩;cases bZ (r1.look t1.st hp);exact⟨s,rfl,ha,k _ H1 Hb t1 AG⟩
  ·cases e
 ·cases e
end
section
variable{X:Cx}{tg a b e:Expr}{fa fb f:FE}{pos p:Pos}
theorem IS(he:DE X e f):DI X tg e (Dm.iTx f):=PI.weak (AF he) fun _ _ _=>GG
theorem D6{name:Str}{id:String}{r:V->List V->Hp->VK->Prop}{g:List Nat->Dat->Option RV}{ap cp:Pos}(slot:Slot "str" name id)(hty:typeOf (.builtin id)=pure (.type "method_descriptor"))(mt:MtR X id r)(md:MD r g)(ha:DE X a fa)(he:DE X e f)
  (Ef:attributeBase a name X.env (eval a X.env)=eval a X.env:=by rfl)
  (hfew:((backTo cp (starEach [e] X.env)).all (fun x=>!x.1)&&(backToKw cp (keywordEach [] X.env)).all (fun x=>x.1.isSome)
   && decide ([e].length+([]:List Keyword).length+(if ([]:List Keyword).isEmpty then 0 else 1)<30))=true:=by rfl)
  (BU:(ap.endLine == cp.line)=true:=by rfl) (hs:starEach [e] X.env=(false,eval e X.env)::starEach [] X.env:=by rfl) (BS:(backTo cp (starEach [] X.env)).any (·.1)=false:=by rfl) :
  DE X (.Call (.Attribute a name ap) [e] [] cp) (Dm.eS2 g fa f):=
 PE.weak (v9 PySem.F.plainAttrs_str slot hty mt ha (aa he af hs) Ef hfew BU hs BS) fun _ _ _=>IP md
theorem fk(ha:DE X a fa)(hb:DE X b fb):DE X (.BinOp a .Add b pos) (Dm.e2 Dm.eG fa fb):=q_ qO Ay ha hb
theorem GH(ha:DE X a fa)(hb:DE X b fb)(hm:behindInMarks .In b=false:=by rfl):DE X (.Compare a [.In] [b] pos) (Dm.e2 Dm.xC fa fb):=oX uH D3 ha hb hm
theorem GI(ha:DE X a fa)(hb:DE X b fb)(hs:jH b:=by intro _ _;rfl):DE X (.Subscript a b pos) (Dm.e2 Dm.vc fa fb):=PE.weak (v5 CP ha hb hs) fun _ _ _=>wk D4
theorem D7{fs:List FE}(hg:Gl X "len")(hm:X.mg "len" = none)(ha:DA X [e] fs)(he:starEach [e] X.env=[(false,eval e X.env)]:=by rfl)(En:(backTo pos (starEach [] X.env)).any (·.1)=false:=by rfl):DE X (.Call (.Name "len" p) [e] [] pos) (Dm.eB Dm.mO fs):=uV nu Az PySem.boot_len hg hm ha (he:=he) (En:=En)
end
open Builtin.Str in
open Builtin.Str in
theorem AH:CallD (fun xs H Q=>∃a:List Nat,xs=[.str ⟨a.toArray⟩]/\a≠[]/\a.all Dm.dh=true/\a.length<=600/\Q (.int (Dm.l9 a:Nat)) H) Dm.j5:=by
 intro H0 H vs ds z Q s rs e k;unfold Dm.j5 at e;split at e
 ·rename_i a;split at e
  case isFalse=>cases e
  rename_i hz;cases e;cases rs with
  |cons r rr=>cases rr;cases bZ r;exact⟨a,rfl,hz.1,hz.2.1,hz.2.2,k _ H0 H (aP.refl s) (.int _)⟩
 ·cases e
section
variable{X:Cx}{tg a b e:Expr}{fa fb f:FE}{pos p p2:Pos}{fs:List FE}
theorem D8(hg:Gl X "int")(hm:X.mg "int" = none)(ha:DA X [e] fs)(he:starEach [e] X.env=[(false,eval e X.env)]:=by rfl)(En:(backTo pos (starEach [] X.env)).any (·.1)=false:=by rfl):DE X (.Call (.Name "int" p) [e] [] pos) (Dm.eB Dm.j5 fs):=z8 ve AH (by rfl) hg hm ha (he:=he) (En:=En)
theorem D9{x:Str}{s:List Nat}{t:Tok}(hg:Gl X x)(hm:X.mg x=some (.str ⟨s.toArray⟩ t))(hd:(x == ("__debug__" : Str))=false:=by decide):DE X (.Name x pos) (Dm.eC (.str s)):=
 PE.weak (sI (v:=.str ⟨s.toArray⟩) hg hm ⟨t,rfl⟩ hd) fun _ _ _=>fK fun _=>.str s
variable{ap cp:Pos}
theorem i8(ha:DE X a fa)(he:DE X e f)(Ef:attributeBase a "partition" X.env (eval a X.env)=eval a X.env:=by rfl)
  (hfew:((backTo cp (starEach [e] X.env)).all (fun x=>!x.1)&&(backToKw cp (keywordEach [] X.env)).all (fun x=>x.1.isSome)
   && decide ([e].length+([]:List Keyword).length+(if ([]:List Keyword).isEmpty then 0 else 1)<30))=true:=by rfl)
  (BU:(ap.endLine == cp.line)=true:=by rfl) (hs:starEach [e] X.env=(false,eval e X.env)::starEach [] X.env:=by rfl) (BS:(backTo cp (starEach [] X.env)).any (·.1)=false:=by rfl) :
  DE X (.Call (.Attribute a "partition" ap) [e] [] cp) (Dm.eS2 Dm.dG fa f):=D6 F.slot_str_partition F.type_str_partition AA AB ha he Ef hfew BU hs BS
theorem AI(ha:DE X a fa)(he:DE X e f)(Ef:attributeBase a "split" X.env (eval a X.env)=eval a X.env:=by rfl)
  (hfew:((backTo cp (starEach [e] X.env)).all (fun x=>!x.1)&&(backToKw cp (keywordEach [] X.env)).all (fun x=>x.1.isSome)
   && decide ([e].length+([]:List Keyword).length+(if ([]:List Keyword).isEmpty then 0 else 1)<30))=true:=by rfl)
  (BU:(ap.endLine == cp.line)=true:=by rfl) (hs:starEach [e] X.env=(false,eval e X.env)::starEach [] X.env:=by rfl) (BS:(backTo cp (starEach [] X.env)).any (·.1)=false:=by rfl) :
  DE X (.Call (.Attribute a "split" ap) [e] [] cp) (Dm.eS2 Dm.i7 fa f):=D6 Lq F.type_str_split xE xF ha he Ef hfew BU hs BS
theorem rE(ha:DE X a fa)(he:DE X e f)(Ef:attributeBase a "join" X.env (eval a X.env)=eval a X.env:=by rfl)
  (hfew:((backTo cp (starEach [e] X.env)).all (fun x=>!x.1)&&(backToKw cp (keywordEach [] X.env)).all (fun x=>x.1.isSome)
   && decide ([e].length+([]:List Keyword).length+(if ([]:List Keyword).isEmpty then 0 else 1)<30))=true:=by rfl)
  (BU:(ap.endLine == cp.line)=true:=by rfl) (hs:starEach [e] X.env=(false,eval e X.env)::starEach [] X.env:=by rfl) (BS:(backTo cp (starEach [] X.env)).any (·.1)=false:=by rfl) :
  DE X (.Call (.Attribute a "join" ap) [e] [] cp) (Dm.eS2 Dm.jn fa f):=D6 F.slot_str_join F.type_str_join AD AE ha he Ef hfew BU hs BS
end
end Br
namespace Dm
noncomputable def jD:Dat->Option RV
 |.int i=>if i.natAbs<10 ^ 100 then some (.val (.str (codes (toString i)))) else none
 |_=>none
noncomputable def pK:List FE->List Nat->Env->Option (List Nat×Env)
 |[],kM,ρ=>some (kM,ρ)
 |f::r,kM,ρ=>match f ρ with
  |some (.val (.str s),ρ1)=>if kM.length+s.length<=SZ then pK r (kM++s) ρ1 else none
  |_=>none
noncomputable def eJS(fs:List FE):FE:=fun ρ=>match pK fs [] ρ with
 |some (s,ρ1)=>some (.val (.str s),ρ1)
 |none=>none
end Dm
namespace Br
open PySem PySem.Spec PyProof.Rows L2
section
variable{fs:List FE}{pos:Pos}{X:Cx}{e:Expr}
def GJ:V->Hp->VK->Prop:=fun x H Q=>∃i:Int,x=.int i/\i.natAbs<10 ^ 100/\Q (.str ⟨(Dm.codes (toString i)).toArray⟩) H
theorem D_{te:TE}(he:PE X e te):PE X (.FormattedValue e (-1) none pos) (tUn GJ te):=by
 intro cM s σ H Q I h;refine FormattedValue_plain (thn (he cM s σ H _ I h) fun v s1 ⟨x,H1,I1,r1,q1⟩=>?_);obtain⟨i,rfl,hi,q⟩:=q1;obtain⟨t,rfl⟩:=r1;refine formatField_int_small ?_ ⟨.str ⟨(Dm.codes (toString i)).toArray⟩,H1,I1.tok _,⟨_,congrArg (Lf · _) (cB _)⟩,q⟩;by_cases z:i.natAbs=0
 ·rw[z];decide
 ·exact(L5 z).mpr (JS hi (JU (Nat.pow_le_pow_left (by decide:10<=2 ^ 4) 100) (by rw[<- Nat.pow_mul];exact Nat.pow_le_pow_right (by decide) (by decide))))
theorem Ea:UnD GJ Dm.jD:=by
 intro H0 H x dx z Q s rx e k;unfold Dm.jD at e;split at e
 ·rename_i i;split at e
  case isFalse=>cases e
  rename_i hi;cases e;cases aB rx;exact⟨i,rfl,hi,k _ H0 H (aP.refl s) (.str _)⟩
 ·cases e
theorem xG{f:FE}(he:DE X e f):DE X (.FormattedValue e (-1) none pos) (Dm.e1 Dm.jD f):=PE.weak (D_ he) fun _ _ _=>CW Ea
inductive DJ(X:Cx):List Expr->List FE->Prop
 |nil:DJ X [] []
 |cons {e:Expr} {f:FE} {es:List Expr} {fs:List FE}:DE X e f->DJ X es fs->DJ X (e::es) (f::fs)
theorem GK{es:List Expr}(d:DJ X es fs):∀(kM:List Nat) (cM:List (Addr×Obj)) (s:Shared) (σ:L2.St) (H H0:Hp) (ρ:Dm.Env) (out:List Nat) (ρ':Dm.Env) (Q:VK),Inv X cM σ H s->aC H0 H σ ρ->kM.length<=Dm.SZ->Dm.pK fs kM ρ=some (out,ρ') ->
  (∀H0' H',ESt σ ρ H0 H ρ' H0' H'->Q (.str ⟨out.toArray⟩) H')->wpAny (model X.prog X.w) X.A (joinParts ⟨kM.toArray⟩ (evalEach es X.env)) (EP X cM σ Q) X.xe s:=by
 induction d with
 |nil=>intro kM cM s σ H H0 ρ out ρ' Q I st ha e k;rw[Dm.pK]at e;cases e;exact joinParts_nilE (joinParts_nil ⟨.str ⟨kM.toArray⟩,H,I.tok _,⟨_,rfl⟩,k H0 H (.refl st)⟩ (by rw[cQ];exact cu ha))
 |cons he _ ih=>
  intro kM cM s σ H H0 ρ out ρ' Q I st ha e k;rw[Dm.pK]at e;split at e
  ·rename_i t ρ1 e1;split at e
   case isFalse=>cases e
   rename_i hz;refine joinParts_consE (joinParts_cons (thn (he cM s σ H (fun v H'=>∃H0',v=.str ⟨t.toArray⟩/\ESt σ ρ H0 H ρ1 H0' H') I ⟨H0,ρ,.val (.str t),ρ1,st,e1,fun v H0' H' tt r=>⟨H0',bZ (r.look tt.st rfl),tt⟩⟩) fun v s1 ⟨x,H1,I1,rx,H0',hx,tt⟩=>?_));subst hx;obtain⟨tk,rfl⟩:=rx;have app:Str.mk kM.toArray++Str.mk t.toArray=Str.mk (kM++t).toArray:=by show Str.mk (kM.toArray++t.toArray)=_;simp
   show (Str.mk kM.toArray++Str.mk t.toArray).length<=sizeLine/\wpAny _ _ (joinParts (Str.mk kM.toArray++Str.mk t.toArray) _) _ _ s1;rw[app];refine⟨by rw[cQ,JO];exact cu hz,?_⟩;exact ih (kM++t) cM s1 σ H1 H0' ρ1 out ρ' Q I1 tt.st (by rw[JO];exact hz) e fun H2 H3 t2=>k H2 H3 (tt.trans t2)
  ·cases e
theorem IT{v1 v2:Expr}{pM:List Expr}(d:DJ X (v1::v2::pM) fs):DE X (.JoinedStr (v1::v2::pM) pos) (Dm.eJS fs):=by
 intro cM s σ H Q I h;obtain⟨H0,ρ,x,ρ',st,e,k⟩:=h;unfold Dm.eJS at e;split at e
 ·rename_i out ρ1 e1;cases e;exact JoinedStr_many (GK d [] cM s σ H H0 ρ out _ Q I st (J8 _) e1 fun H2 H3 t=>k _ H2 H3 t (.str _))
 ·cases e
end
end Br
namespace Dm
noncomputable def isS:Dat->Bool
 |.str _=>true
 |_=>false
noncomputable def i9(i j:Nat)(f:List Dat->Option Dp)(as:List FE):FS:=fun ρ=>if i=0\/j=0 then none else match eAs as ρ with
 |none=>none
 |some (xs,ρ1)=>match tks ρ1 xs with
  |none=>none
  |some (ds,ρ2)=>match f ds with
   | some (.t [.s d,q])=>(match Ar q with
    |some ys=>some (.nx ((ρ2.set i (.sh d)).set j (.ow (.lst ys))))
    |none=>none)
   |_=>none
noncomputable def vg(c:Nat)(e:FE)(gs:FS):FM:=fun ρ p=>match p with
 | .t xs=>(match xs[c]? with
  | some (.l items)=>if items.length<SZ then (match e ρ with
   |some (.val _,ρ1)=>gs ρ1
   |_=>none) else none
  |_=>none)
 |_=>none
noncomputable def xH(ρ:Env):Bool:=ρ.any fun c=>match c with
 |.ow _=>true
 |_=>false
noncomputable def pL(j:Nat)(f:FP)(g:FQ):FSP:=fun ρ=>if j=0\/xH ρ=true then none else match f ρ with
 |none=>none
 |some (p,ρ1)=>g (ρ1.set j .un) p
noncomputable def xJ:FQ:=fun _ p=>some p
noncomputable def cNo:FC:=fun _ _=>none
end Dm
namespace Br
open PySem PySem.Spec PyProof.Rows L2
theorem AJ:rm "str" Dm.isS:=fun K d=>by cases d<;>rfl
theorem bx.flat{N:Addr->Prop}{H0 H:Hp}:∀{ds:List Dat} {vs:List V} {fp:List Addr},bx N H0 H vs (ds.map .s) fp->aI H0 vs ds
 |[],_,_,h=>by cases h;exact .nil
 |d::ds,_,_,h=>by
  rw[Ds]at h;cases h with
  |cons h r=>cases h with | s h=>exact .cons h (bx.flat r)
section
variable{D:Ends}{σ:L2.St}{H:Hp}{j:Nat}
theorem AK{K:Js}{i:Nat}{f:List Dat->Option Dm.Dp}{fs:List FE}{E:XK}(h:tDS (Dm.i9 i j f fs) D σ H):ng (sN (spP f) [] E (tDA fs)) (zC K 2 (cY [i,j])) D σ H:=by
 obtain⟨H0,ρ,o,st,e,k⟩:=h;unfold Dm.i9 at e;split at e
 ·cases e
 rename_i hij;split at e
 ·cases e
 rename_i xs ρ1 e1;split at e
 ·cases e
 rename_i ds ρ2 e2;split at e
 case h_2=>cases e
 rename_i d q ep;split at e
 case h_2=>cases e
 rename_i ys hq;cases e;refine⟨H0,ρ,xs,ρ1,st,e1,fun vs H1 Hb t1 r1=>?_⟩;dsimp only;rw[Ke];obtain⟨H2,t2,b2,r2⟩:=takes t1 (au.refl _) r1 e2;refine⟨H2,ds,_,t2.st.same,r2,ep,fun v H3 Hd fp g3 r3 nd n3=>?_⟩;rw[As hq]at r3;have t3:=t2.trans (.grow t2.st g3);cases r3 with
 |t nA hA rs=>
  cases rs with
  |cons r0 rs=>
   cases rs with
   |cons r4 rs=>
    cases rs;cases r0 with
    |s r0=>
     cases r4 with
     |l na ha rl=>
      rename_i A u0 a ws fp2;refine⟨A,_,rfl,SqT.of hA,rfl,_,_,rfl,_,_,rfl,rfl,?_⟩;have nb:=t2.st.h_ na;refine k _ H3 Hd ⟨(t3.st.nC r0).wm (fun z=>nb (cH z)) (n3 a (by simp)) ⟨ws,ha,rl.flat⟩,t3.stp,fun b z=>?_,?_⟩
      ·rcases g_ z with rfl | z
       ·exact .inr (t2.stp.gone na)
       ·exact .inl (t3.own b (cH z))
      ·rw[Jz (fun z=>hij (.inr z)),Jz (fun z=>hij (.inl z))]
theorem Eb{K:Js}{c:Nat}{cz:Int}(hcz:cz=(c:Int)){f:FE}{gs:FS}(h:tDM j (Dm.vg c f gs) D σ H):oB (sL (tBM K "list" ny (tOp (CO K) (uB j) (tC (.int cz))) (tDA [f]))) (tDS gs) D σ H:=by
 subst hcz;obtain⟨σs,ρs,H0s,Hs,H0,ρ,p,o,n,e,k⟩:=h;unfold Dm.vg at e;split at e
 case h_2=>cases e
 rename_i ps;split at e
 case h_2=>cases e
 rename_i items hi;split at e
 case isFalse=>cases e
 rename_i hz;split at e
 case h_2=>cases e
 rename_i d ρ1 e1;obtain⟨v,fp,h1,h2,h3⟩:=n.ex;have h2':=h2;cases h2 with
 |t hN ha rs=>
  rename_i a vs;obtain⟨u,f',hu,ru,hf⟩:=rs.get hi;cases ru with
  |l hNb hb rb=>
   rename_i b us fb;obtain⟨z1,z2⟩:=h3.2 b (hf b JJ);refine⟨_,h1,a,vs,(c:Int),.ref b,rfl,rfl,.of ha,DY hu,.inl ⟨rfl,us,.inl (.inl hb)⟩,H0,ρ,[.val d],ρ1,n.st,by unfold Dm.eAs;rw[e1];rfl,fun ws H0' H' t r=>?_⟩;obtain⟨m1,m2⟩:=h2'.est n.st t h3.2;have hb':=t.stp.s1 b _ hb z2;have e2:∃y,ws=[y]:=by
    cases r with
    |cons _ r=>cases r;exact⟨_,rfl⟩
   obtain⟨y,rfl⟩:=e2;refine⟨b,us,y,rfl,rfl,hb',by rw[rb.length];exact JS hz (by decide),?_⟩;obtain⟨w1,w2⟩:=m2 b (hf b JJ);have tt:=(n.est t).wr hNb w1 w2 (.lst (us++[y]));exact⟨H0',ρ1,o,tt.st,e,k.pre tt⟩
theorem GL{ρ:Dm.Env}(h:¬Dm.xH ρ=true){a:Addr}:¬aq σ ρ a:=fun⟨i,d,h1,_⟩=>h (by unfold Dm.xH;rw[List.any_eq_true];exact⟨_,KD h1,rfl⟩)
theorem AL{f:Dm.FP}{g:Dm.FQ}(hj:j<σ.length)(h:tDP (Dm.pL j f g) D σ H):oB (ng (tDp f) (g7 j)) (tDQ j g) D σ H:=by
 obtain⟨H0,ρ,q,st,e,k⟩:=h;unfold Dm.pL at e;split at e
 ·cases e
 rename_i hz;split at e
 ·cases e
 rename_i p ρ1 e1;refine⟨H0,ρ,p,ρ1,st,e1,fun v H0' H' fp t r fr=>?_⟩;obtain⟨s1,s2⟩:=t.st.xw j (some v);refine⟨σ,ρ,H0,H,H0',_,p,q,⟨s1,t.stp,fun a z=>.inl (t.own a (s2 a z)),Jz (fun z=>hz (.inl z)),v,fp,J3 hj,r.mono (au.refl _) (fun a n=>n.elim (fun z=>z) fun z=>absurd z (GL fun y=>hz (.inr y))) (fun _ _ _ h=>h) fun _ _=>rfl,fr.1,fun a ha=>⟨(fr.2 a ha).1,fun z=>(fr.2 a ha).2 (s2 a z)⟩⟩,e,k⟩
theorem AM(h:tDQ j Dm.xJ D σ H):zz (uB j) D σ H:=by obtain⟨σs,ρs,H0s,Hs,H0,ρ,p,q,n,e,k⟩:=h;cases e;obtain⟨v,fp,h1,h2,h3⟩:=n.ex;exact⟨v,h1,k _ _ _ _ _ fp n.sst (h2.mono (au.refl _) (fun a z=>.inl z) (fun _ _ _ h=>h) fun _ _=>rfl) h3.1 fun a ha=>(h3.2 a ha).1⟩
end
section
variable{X:Cx}{e:Expr}{es:List Expr}{f:FE}{pos:Pos}{j:Nat}
section
variable{pM:List Stmt}{x:Str}
theorem AO{st:Stmt}:DC X j st Dm.cNo:=PS.weak oE fun _ _ _ ⟨_,_,_,_,_,_,_,_,_,z,_⟩=>by cases z
theorem Ec{px:Pos}(hi:X.N[j]?=some x:=by rfl)(hv:Vis X.env.scope x:=by trivial)(hd:(x == ("__debug__" : Str))=false:=by decide)(IU:(x == ("__classdict__" : Str))=false:=by decide) :
  DHs X j [.Return (some (.Name x px)) pos] Dm.xJ:=jF (PS.weak (qI (jO hi hv hd IU)) fun _ _ _=>AM)
theorem Ed(j:Nat){y:Str}{pos':Pos}{fp:Dm.FP}{gq:Dm.FQ}(hN:X.N.Nodup)(he:DP X e fp)(hre:DHs X j pM gq)(hi:X.N[j]?=some y:=by rfl)(hx:Loc X.env.scope y:=by trivial)(hs:swapsWith e (some (.Name y pos')) pos.line X.env=pure false:=by rfl)
  (hf:X.fn y=true\/X.env.scope.names.lookup y=some .local:=by trivial):DQs X (.Assign [.Name y pos'] e pos::pM) (Dm.pL j fp gq):=by
 have h:=dw (qK hN hi hx he hs hf) hre;intro cM s σ H D I q;exact h cM s σ H D I (AL (by rw[I.len];exact(JH.mp hi).1) q)
theorem GN(c:Nat){x:Str}{px sp ap cp ip:Pos}{cz:Int}{jc}{gs:FS}(he:DE X e f)(hr:DSs X pM gs)(hcz:cz=(c:Int):=by rfl)(hi:X.N[j]?=some x:=by rfl)(hv:Vis X.env.scope x:=by trivial)(hd:(x == ("__debug__" : Str))=false:=by decide)
  (IU:(x == ("__classdict__" : Str))=false:=by decide) (hpz:jH (.Constant (.int cz) jc ip):=by intro _ _;rfl) (Ef:attributeBase (.Subscript (.Name x px) (.Constant (.int cz) jc ip) sp) "append" X.env (eval (.Subscript (.Name x px) (.Constant (.int cz) jc ip) sp) X.env)=eval (.Subscript (.Name x px) (.Constant (.int cz) jc ip) sp) X.env:=by rfl)
  (hfew:((backTo cp (starEach [e] X.env)).all (fun x=>!x.1)&&(backToKw cp (keywordEach [] X.env)).all (fun x=>x.1.isSome)
   && decide ([e].length+([]:List Keyword).length+(if ([]:List Keyword).isEmpty then 0 else 1)<30))=true:=by rfl)
  (BU:(ap.endLine == cp.line)=true:=by rfl) (hs:starEach [e] X.env=(false,eval e X.env)::starEach [] X.env:=by rfl) (BS:(backTo cp (starEach [] X.env)).any (·.1)=false:=by rfl)
  (hsw:swapsWith (.Call (.Attribute (.Subscript (.Name x px) (.Constant (.int cz) jc ip) sp) "append" ap) [e] [] cp) none pos.line X.env=pure false:=by rfl) :
  DMs X j (.Expr (.Call (.Attribute (.Subscript (.Name x px) (.Constant (.int cz) jc ip) sp) "append" ap) [e] [] cp) pos::pM) (Dm.vg c f gs):=
 PSs.weak (dw (m8 (v9 PySem.F.plainAttrs_list PySem.F.slot_list_append PySem.F.type_list_append iK (v5 v7 (jO hi hv hd IU) vK hpz) (aa he af hs) Ef hfew BU hs BS) hsw) hr) fun _ _ _=>Eb hcz
theorem AQ(i j:Nat){k:Nat}{F:Addr}{fd:FuncData}{ps:List Str}{g:List Dat->Option Dm.Dp}{as:List FE}{p cpos tpos:Pos}{ts:List Expr}{kt:Nat}(hc:X.calm=true)(G:bK X.prog X.w X.K X.mg X.base CX0 k F fd ps (spP g))(hr:cj k X.A)(hg:Gl X x)(hm:X.mg x=some (.ref F))(hk:KQ X.K (.ref F)=true)(hb:Binds X.K fd ps [])
  (ht:PGs X ts (cY [i,j])) (ha:DA X (e::es) as) (hn:(assignEach ts X.env).length=2:=by rfl) (hst:(assignEach ts X.env).findIdx? (·.1)=none:=by rfl)
  (hs:swapsWithSole [.Tuple ts kt tpos] (.Call (.Name x p) (e::es) [] cpos) pos.line X.env=pure false:=by rfl) (hw:swappedStores [.Tuple ts kt tpos] (.Call (.Name x p) (e::es) [] cpos) X.env=pure none:=by rfl) (h1:(assignEach [.Tuple ts kt tpos] X.env).map (·.2)=[assign (.Tuple ts kt tpos) X.env]:=by rfl)
  (NV:(x == ("__debug__" : Str))=false:=by decide) (he:starEach (e::es) X.env=(false,eval e X.env)::starEach es X.env:=by rfl) (En:(backTo cpos (starEach es X.env)).any (·.1)=false:=by rfl) :
  DS X (.Assign [.Tuple ts kt tpos] (.Call (.Name x p) (e::es) [] cpos) pos) (Dm.i9 i j g as):=
 PS.weak (qJ (nh G hr hg hm hk hb .nil (we (X:=X)) ha NV he En) (nc hc ht hn hst) hs hw h1) fun _ _ _=>AK
end
end
end Br
namespace Dm
section
variable{ρ:Env}{Q:Val->Env->Prop}{K:RV->Prop}{o p:Option Dat}{R:RV->Env->Prop}{N:Env->Prop}{B C:Env->Prop}{α:Type}{d:Dat}{f:List Dat->Option RV}{ds:List Dat}{i j:Int}{xs:List Dat}{X Y:Prop}{as:List FE}{g:Dat->Option RV}{c:Bool}{a:FE}{e:FE}{ρ2 ρ3:Env}{v:RV}{t:FT}{body:FS}{bd:FB}{it:FI}
def We(e:FE)(ρ:Env)(Q:Val->Env->Prop):Prop:=∃v ρ',e ρ=some (v,ρ')/\Q v ρ'
def Wt(t:FT)(ρ:Env)(Q:Bool->Env->Prop):Prop:=∃v ρ',t ρ=some (v,ρ')/\Q v ρ'
def Was(as:List FE)(ρ:Env)(Q:List Val->Env->Prop):Prop:=∃v ρ',eAs as ρ=some (v,ρ')/\Q v ρ'
def Wi(it:FI)(ρ:Env)(Q:List Dat->Env->Prop):Prop:=∃v ρ',it ρ=some (v,ρ')/\Q v ρ'
def KO(N:Env->Prop)(R:RV->Env->Prop)(B C:Env->Prop):Out->Prop
 |.nx ρ=>N ρ
 |.ret r ρ=>R r ρ
 |.bk ρ=>B ρ
 |.ct ρ=>C ρ
def Ws(s:FS)(ρ:Env)(N:Env->Prop)(R:RV->Env->Prop)(B C:Env->Prop):Prop:=∃o,s ρ=some o/\KO N R B C o
def Wr(o:Option RV)(P:RV->Prop):Prop:=∃r,o=some r/\P r
def Wif(c:Bool)(X Y:Prop):Prop:=(c=true->X)/\(c=false->Y)
def Wg1(g:Dat->Option RV)(o:Option Dat)(K:RV->Prop):Prop:=∃d v,o=some d/\g d=some v/\K v
def Wg2(g:Dat->Dat->Option RV)(o p:Option Dat)(K:RV->Prop):Prop:=∃d e v,o=some d/\p=some e/\g d e=some v/\K v
def WB(g:List Dat->Option RV)(o:Option (List Dat))(K:RV->Prop):Prop:=∃ds v,o=some ds/\g ds=some v/\K v
def WT(o:Option (List Dat×Env))(K:List Dat->Env->Prop):Prop:=∃ds ρ,o=some (ds,ρ)/\ds.length<=SZ/\K ds ρ
def WF(f:List Dat->Option RV)(ρ:Env)(xs:List Val)(Q:Val->Env->Prop):Prop:=∃ds v,pks ρ xs=some ds/\f ds=some v/\(if aG v.dat then ∃ds' ρ2,tks ρ xs=some (ds',ρ2)/\Q v.ay ρ2 else Q v.ay ρ)
def Wk(ρ:Env)(x:Val)(K:Dat->Env->Prop):Prop:=∃d ρ',tk ρ x=some (d,ρ')/\K d ρ'
def Wp(o:Option FE)(ρ:Env)(K:Option Int->Env->Prop):Prop:=∃i ρ',part o ρ=some (i,ρ')/\K i ρ'
theorem MF(x:X):Wif true X Y:=⟨fun _=>x,fun h=>by cases h⟩
theorem Mz(y:Y):Wif false X Y:=⟨fun h=>(by cases h),fun _=>y⟩
theorem MT(h:c=true)(x:X):Wif c X Y:=⟨fun _=>x,fun h'=>by rw[h]at h';cases h'⟩
theorem MB(h:c=false)(y:Y):Wif c X Y:=⟨fun h'=>(by rw[h]at h';cases h'),fun _=>y⟩
theorem Nh{p:Prop}[Decidable p](x:p->X)(y:¬p->Y):Wif (decide p) X Y:=⟨fun h=>x (of_decide_eq_true h),fun h=>y (of_decide_eq_false h)⟩
theorem K_{i:Nat}(h:ρ[i]?=some (.sh d))(q:Q (.val d) ρ):We (eV i) ρ Q:=⟨_,_,by unfold eV;rw[h],q⟩
theorem MI{i:Nat}(h:ρ[i]?=some (.ow d))(q:Q (.slot i) ρ):We (eV i) ρ Q:=⟨_,_,by unfold eV;rw[h],q⟩
theorem L_(q:Q (.val d) ρ):We (eC d) ρ Q:=⟨_,_,rfl,q⟩
theorem ML(h:We a ρ fun x ρ1=>Wg1 g (pk ρ1 x) fun v=>Q v.ay ρ1):We (e1 g a) ρ Q:=by obtain⟨x,ρ1,h1,d,v,h2,h3,q⟩:=h;exact⟨_,_,by unfold Dm.e1;rw[h1];dsimp only;rw[h2];dsimp only;rw[h3],q⟩
theorem Mm{g:Dat->Dat->Option RV}{a b:FE}(h:We a ρ fun x ρ1=>We b ρ1 fun y ρ2=>Wg2 g (pk ρ2 x) (pk ρ2 y) fun v=>Q v.ay ρ2):We (e2 g a b) ρ Q:=by obtain⟨x,ρ1,h1,y,ρ2,h2,d,e,v,h3,h4,h5,q⟩:=h;exact⟨_,_,by unfold Dm.e2;rw[h1];dsimp only;rw[h2];dsimp only;rw[h3];dsimp only;rw[h4];dsimp only;rw[h5],q⟩
theorem J_{Q:List Val->Env->Prop}(q:Q [] ρ):Was [] ρ Q:=⟨_,_,rfl,q⟩
theorem m_{r:List FE}{Q:List Val->Env->Prop}(h:We a ρ fun x ρ1=>Was r ρ1 fun xs ρ2=>Q (x::xs) ρ2):Was (a::r) ρ Q:=by obtain⟨x,ρ1,h1,xs,ρ2,h2,q⟩:=h;exact⟨_,_,by unfold eAs;rw[h1];dsimp only;rw[h2],q⟩
theorem ME{g:List Dat->Option RV}(h:Was as ρ fun xs ρ1=>WB g (pks ρ1 xs) fun v=>Q v.ay ρ1):We (eB g as) ρ Q:=by obtain⟨x,ρ1,h1,d,v,h2,h3,q⟩:=h;exact⟨_,_,by unfold eB;rw[h1];dsimp only;rw[h2];dsimp only;rw[h3],q⟩
theorem M0(h:Was as ρ fun xs ρ1=>WT (tks ρ1 xs) fun ds ρ2=>Q (.val (.tup ds)) ρ2):We (a_ as) ρ Q:=by obtain⟨x,ρ1,h1,ds,ρ2,h2,h3,q⟩:=h;exact⟨_,_,by unfold a_;rw[h1];dsimp only;rw[h2];dsimp only;rw[if_pos h3],q⟩
theorem M7(h:Was as ρ fun xs ρ1=>WT (tks ρ1 xs) fun ds ρ2=>Q (.new (.lst ds)) ρ2):We (aW as) ρ Q:=by obtain⟨x,ρ1,h1,ds,ρ2,h2,h3,q⟩:=h;exact⟨_,_,by unfold aW;rw[h1];dsimp only;rw[h2];dsimp only;rw[if_pos h3],q⟩
theorem MN{xs:List Val}{K:List Dat->Env->Prop}(k:K ds ρ3)(h:tks ρ xs=some (ds,ρ2))(hn:ρ2=ρ3)(hl:ds.length<=SZ):WT (tks ρ xs) K:=⟨_,_,hn▸h,hl,k⟩
theorem Ms(h:Was as ρ fun xs ρ1=>WF f ρ1 xs Q):We (eF f as) ρ Q:=by
 obtain⟨x,ρ1,h1,ds,v,h2,h3,h4⟩:=h;by_cases hb:aG v.dat=true
 ·rw[if_pos hb]at h4;obtain⟨ds',ρ2,h5,q⟩:=h4;exact⟨_,_,by unfold eF;rw[h1];dsimp only;rw[h2];dsimp only;rw[h3];dsimp only;rw[if_pos hb,h5],q⟩
 ·rw[if_neg hb]at h4;exact⟨_,_,by unfold eF;rw[h1];dsimp only;rw[h2];dsimp only;rw[h3];dsimp only;rw[if_neg hb],h4⟩
theorem MK{ρ ρ2 ρ3:Env}{xs:List Val}{ds ds':List Dat}(h2:f ds=some v)(q:Q v.ay ρ3)(h1:pks ρ xs=some ds)(h3:aG v.dat=true)(h4:tks ρ xs=some (ds',ρ2))(hn:ρ2=ρ3):WF f ρ xs Q:=
 ⟨_,_,h1,h2,by rw[if_pos h3];exact⟨_,_,h4,hn▸q⟩⟩
theorem Mp{xs:List Val}(h2:f ds=some v)(q:Q v.ay ρ)(h1:pks ρ xs=some ds)(h3:aG v.dat=false):WF f ρ xs Q:=
 ⟨_,_,h1,h2,by rw[if_neg (by rw[h3];decide)];exact q⟩
def Wb(v:Val)(K:Bool->Prop):Prop:=∃c,v=.val (.bl c)/\K c
theorem Mn{K:Bool->Prop}(k:K c):Wb (.val (.bl c)) K:=⟨c,rfl,k⟩
theorem MQ{a b:FE}(h:We a ρ fun v ρ1=>Wb v fun c=>Wif c (We b ρ1 Q) (Q (.val (.bl false)) ρ1)):We (bq a b) ρ Q:=by
 obtain⟨v,ρ1,h1,c,rfl,h2,h3⟩:=h;cases c with
 |true=>obtain⟨v,ρ2,h4,q⟩:=h2 rfl;exact⟨_,_,by unfold bq;rw[h1];exact h4,q⟩
 |false=>exact⟨_,_,by unfold bq;rw[h1],h3 rfl⟩
theorem Mt{Q:Bool->Env->Prop}(h:We a ρ fun v ρ1=>Wb v fun c=>Q c ρ1):Wt (tV a) ρ Q:=by obtain⟨v,ρ1,h1,c,rfl,h2⟩:=h;exact⟨_,_,by unfold tV;rw[h1],h2⟩
theorem Mu{Q:Bool->Env->Prop}(h:Wt t ρ fun c ρ1=>Q (!c) ρ1):Wt (aR t) ρ Q:=by obtain⟨v,ρ1,h1,h2⟩:=h;exact⟨_,_,by unfold aR;rw[h1],h2⟩
theorem Nt{t u:FT}{Q:Bool->Env->Prop}(h:Wt t ρ fun c ρ1=>Wif c (Wt u ρ1 Q) (Q false ρ1)):Wt (bz t u) ρ Q:=by
 obtain⟨c,ρ1,h1,h2,h3⟩:=h;cases c with
 |true=>obtain⟨v,ρ2,h4,q⟩:=h2 rfl;exact⟨_,_,by unfold bz;rw[h1];exact h4,q⟩
 |false=>exact⟨_,_,by unfold bz;rw[h1],h3 rfl⟩
theorem MC{t u:FT}{Q:Bool->Env->Prop}(h:Wt t ρ fun c ρ1=>Wif c (Q true ρ1) (Wt u ρ1 Q)):Wt (tOr t u) ρ Q:=by
 obtain⟨c,ρ1,h1,h2,h3⟩:=h;cases c with
 |false=>obtain⟨v,ρ2,h4,q⟩:=h3 rfl;exact⟨_,_,by unfold tOr;rw[h1];exact h4,q⟩
 |true=>exact⟨_,_,by unfold tOr;rw[h1],h2 rfl⟩
theorem Na{Q:Bool->Env->Prop}(q:Q true ρ):Wt az ρ Q:=⟨_,_,rfl,q⟩
theorem MH{K:Dat->Env->Prop}(k:K d ρ):Wk ρ (.val d) K:=⟨_,_,rfl,k⟩
theorem M9{K:Dat->Env->Prop}(k:K d ρ):Wk ρ (.new d) K:=⟨_,_,rfl,k⟩
noncomputable def AR:Dat->Option (List Dat)
 |.lst ds=>some ds
 |.tup ds=>some ds
 |_=>none
theorem Nz{Q:List Dat->Env->Prop}(h:We a ρ fun x ρ1=>Wk ρ1 x fun d ρ2=>∃ds,AR d=some ds/\Q ds ρ2):Wi (iS a) ρ Q:=by
 obtain⟨x,ρ1,h1,d,ρ2,h2,ds,hd,q⟩:=h;cases d with
 |lst xs=>cases hd;exact⟨_,_,by unfold iS;rw[h1];dsimp only;rw[h2],q⟩
 |tup xs=>cases hd;exact⟨_,_,by unfold iS;rw[h1];dsimp only;rw[h2],q⟩
 |_=>cases hd
def l_(v:Val)(K:Int->Prop):Prop:=∃i,v=.val (.int i)/\K i
theorem l_.mk{i:Int}{K:Int->Prop}(k:K i):l_ (.val (.int i)) K:=⟨i,rfl,k⟩
theorem NB{a b:FE}{Q:List Dat->Env->Prop}(h:We a ρ fun v ρ1=>l_ v fun i=>We b ρ1 fun w ρ2=>l_ w fun j=>Q (ups i (j-i).toNat) ρ2/\j<=BIG/\-BIG<=j/\i<=BIG/\-BIG<=i):Wi (iR2 a b) ρ Q:=by obtain⟨v,ρ1,h1,i,rfl,w,ρ2,h2,j,rfl,q,h3⟩:=h;exact⟨_,_,by unfold iR2;rw[h1];dsimp only;rw[h2];dsimp only;rw[if_pos h3],q⟩
theorem Wp.none{K:Option Int->Env->Prop}(k:K none ρ):Wp none ρ K:=⟨_,_,rfl,k⟩
theorem Wp.some{f:FE}{K:Option Int->Env->Prop}(h:We f ρ fun v ρ1=>l_ v fun i=>K (some i) ρ1):Wp (some f) ρ K:=by obtain⟨v,ρ1,h1,i,rfl,k⟩:=h;exact⟨_,_,by unfold part;dsimp only;rw[h1],k⟩
def Wsl(o:Option Dat)(l h:Option Int)(K:Dat->Prop):Prop:=∃xs,o=some (.lst xs)/\K (.lst (cut xs l h))
noncomputable def j9{α:Type}(xs:List α)(lo hi:Option Int):List α:=(xs.drop (sIx xs.length 0 lo)).take (sIx xs.length xs.length hi-sIx xs.length 0 lo)
theorem GO(AW:α->Dat)(xs:List α)(lo hi:Option Int):cut (xs.map AW) lo hi=(j9 xs lo hi).map AW:=by unfold cut j9;rw[JM,<- List.map_drop,<- List.map_take]
theorem xK(xs:List α)(lo hi:Option Int):(j9 xs lo hi).length<=xs.length:=by unfold j9;rw[KA,KC];lia
theorem Wsl.A{AW:α->Dat}{xs:List α}{o:Option Dat}{l h:Option Int}{K:Dat->Prop}(k:K (.lst ((j9 xs l h).map AW)))(ho:o=some (.lst (xs.map AW))):Wsl o l h K:=⟨_,ho,by rw[GO];exact k⟩
theorem Nm{lo hi:Option FE}(h:We a ρ fun x ρ1=>Wp lo ρ1 fun l ρ2=>Wp hi ρ2 fun h ρ3=>Wsl (pk ρ3 x) l h fun d=>Q (.new d) ρ3):We (eSl a lo hi) ρ Q:=by obtain⟨x,ρ1,h1,l,ρ2,h2,hh,ρ3,h3,xs,h4,q⟩:=h;exact⟨_,_,by unfold eSl;rw[h1];dsimp only;rw[h2];dsimp only;rw[h3];dsimp only;rw[h4],q⟩
theorem MA(n:N ρ):Ws sNx ρ N R B C:=⟨_,rfl,n⟩
theorem Mq{s u:FS}(h:Ws s ρ (fun ρ1=>Ws u ρ1 N R B C) R B C):Ws (ai s u) ρ N R B C:=by
 obtain⟨o,h1,h2⟩:=h;cases o with
 |nx ρ1=>obtain⟨o,h3,h4⟩:=h2;exact⟨o,by unfold ai;rw[h1];exact h3,h4⟩
 |ret r ρ1=>exact⟨.ret r ρ1,by unfold ai;rw[h1],h2⟩
 |bk ρ1=>exact⟨.bk ρ1,by unfold ai;rw[h1],h2⟩
 |ct ρ1=>exact⟨.ct ρ1,by unfold ai;rw[h1],h2⟩
def WA(i:Nat)(v:Val)(ρ:Env)(N:Env->Prop):Prop:=match v with
 |.new d=>N (ρ.set i (.ow d))
 |x=>Wk ρ x fun d ρ2=>N (ρ2.set i (.sh d))
theorem MM{i:Nat}(h:We e ρ fun v ρ1=>WA i v ρ1 N)(hi:i≠0):Ws (sA i e) ρ N R B C:=by
 obtain⟨v,ρ1,h1,h2⟩:=h;cases v with
 |new d=>exact⟨.nx _,by unfold sA;rw[if_neg hi,h1],h2⟩
 |val d=>obtain⟨d',ρ2,h3,h4⟩:=h2;exact⟨.nx _,by unfold sA;rw[if_neg hi,h1];dsimp only;rw[h3],h4⟩
 |slot j=>obtain⟨d',ρ2,h3,h4⟩:=h2;exact⟨.nx _,by unfold sA;rw[if_neg hi,h1];dsimp only;rw[h3],h4⟩
theorem MR{i:Nat}{ρ ρ2:Env}(n:N ρ2)(hs:ρ.set i (.ow d)=ρ2):WA i (.new d) ρ N:=by unfold WA;dsimp only;rw[hs];exact n
theorem MJ{i:Nat}{ρ ρ2:Env}(n:N ρ2)(hs:ρ.set i (.sh d)=ρ2):WA i (.val d) ρ N:=⟨_,_,rfl,by show N _;rw[hs];exact n⟩
theorem NJ(h:We e ρ fun _ ρ1=>N ρ1):Ws (sE e) ρ N R B C:=by obtain⟨x,ρ1,h1,n⟩:=h;exact⟨.nx _,by unfold sE;rw[h1],n⟩
def WR(v:Val)(ρ:Env)(R:RV->Env->Prop):Prop:=match v with
 |.new d=>R (.new d) ρ
 |.val d=>R (.val d) ρ
 |.slot i=>(∃d,ρ[i]?=some (.ow d)/\R (.new d) (ρ.set i .un))
theorem Mv(h:We e ρ fun v ρ1=>WR v ρ1 R):Ws (sR e) ρ N R B C:=by
 obtain⟨v,ρ1,h1,h2⟩:=h;cases v with
 |new d=>exact⟨.ret _ _,by unfold sR;rw[h1],h2⟩
 |val d=>exact⟨.ret _ _,by unfold sR;rw[h1],h2⟩
 |slot i=>obtain⟨d,h3,h4⟩:=h2;exact⟨.ret _ _,by unfold sR;rw[h1];dsimp only;rw[h3],h4⟩
theorem Nn(r:R (.val d) ρ):WR (.val d) ρ R:=r
theorem Nd{i:Nat}(r:R (.new d) (ρ.set i .un))(h:ρ[i]?=some (.ow d)):WR (.slot i) ρ R:=⟨d,h,r⟩
theorem My{a b:FS}(h:Wt t ρ fun c ρ1=>Wif c (Ws a ρ1 N R B C) (Ws b ρ1 N R B C)):Ws (sIf t a b) ρ N R B C:=by
 obtain⟨c,ρ1,h1,h2,h3⟩:=h;cases c with
 |true=>obtain⟨o,h4,q⟩:=h2 rfl;exact⟨_,by unfold sIf;rw[h1];exact h4,q⟩
 |false=>obtain⟨o,h4,q⟩:=h3 rfl;exact⟨_,by unfold sIf;rw[h1];exact h4,q⟩
theorem M8{i:Nat}{ds0:List Dat}(h:We e ρ fun x ρ1=>Wk ρ1 x fun d ρ2=>∃ds ρ3,ρ2[i]?=some (.ow (.lst ds))/\ρ2.set i (.ow (.lst (ds++[d])))=ρ3/\N ρ3/\ds.length<SZ)(h0:ρ[i]?=some (.ow (.lst ds0))):Ws (bA i e) ρ N R B C:=by obtain⟨x,ρ1,h1,d,ρ2,h2,ds,ρ3,h3,h5,n,h4⟩:=h;exact⟨.nx _,by unfold bA;rw[h0];dsimp only;rw[h1];dsimp only;rw[h2];dsimp only;rw[h3];dsimp only;rw[if_pos h4,h5],n⟩
theorem rF{i:Nat}(n:N ρ3)(h:ρ2[i]?=some (.ow (.lst ds)))(hs:ρ2.set i (.ow (.lst (ds++[d])))=ρ3)(hl:ds.length<SZ):∃ds ρ3,ρ2[i]?=some (.ow (.lst ds))/\ρ2.set i (.ow (.lst (ds++[d])))=ρ3/\N ρ3/\ds.length<SZ:=⟨_,_,h,hs,n,hl⟩
theorem Np(h:Wi it ρ fun ds ρ1=>Ws (cy bd body ds) ρ1 N R B C):Ws (aY it bd body) ρ N R B C:=by obtain⟨ds,ρ1,h1,o,h2,h3⟩:=h;exact⟨o,by unfold aY;rw[h1];exact h2,h3⟩
theorem NI(AW:α->Dat)(bd:FB)(body:FS)(xs:List α)(ρ:Env)(N:Env->Prop)(R:RV->Env->Prop)(B C:Env->Prop)(I:List α->List α->Env->Prop)
  (h0:I [] xs ρ) (hs:∀p x q ρ,xs=p++x::q->I p (x::q) ρ->∃ρ1,bd (AW x) ρ=some ρ1/\Ws body ρ1 (fun ρ2=>I (p++[x]) q ρ2) R N (fun ρ2=>I (p++[x]) q ρ2)) (he:∀ρ,I xs [] ρ->N ρ):Ws (cy bd body (xs.map AW)) ρ N R B C:=by
 have go:∀(q p:List α) (ρ:Env),xs=p++q->I p q ρ->Ws (cy bd body (q.map AW)) ρ N R B C:=fun q=>by
  induction q with
  |nil=>intro p ρ e i;rw[Ke]at e;exact⟨.nx _,rfl,he ρ (e▸i)⟩
  |cons x q ih=>
   intro p ρ e i;obtain⟨ρ1,h1,o,h2,h3⟩:=hs p x q ρ e i;have e':xs=(p++[x])++q:=by rw[KI];exact e
   cases o with
   |nx ρ2=>obtain⟨o,h4,h5⟩:=ih _ _ e' h3;exact⟨o,by rw[Ds,cy,h1];dsimp only;rw[h2];exact h4,h5⟩
   |ct ρ2=>obtain⟨o,h4,h5⟩:=ih _ _ e' h3;exact⟨o,by rw[Ds,cy,h1];dsimp only;rw[h2];exact h4,h5⟩
   |bk ρ2=>exact⟨.nx _,by rw[Ds,cy,h1];dsimp only;rw[h2],h3⟩
   |ret r ρ2=>exact⟨.ret _ _,by rw[Ds,cy,h1];dsimp only;rw[h2],h3⟩
 exact go xs [] ρ rfl h0
theorem Mx{n m:Nat}{P:RV->Prop}(b:Ws body ρ (fun _=>P (.val .non)) (fun r _=>P r) (fun _=>False) (fun _=>False))(hρ:ds.map Cell.sh++gc m .un=ρ)(h:ds.length=n):Wr (fn n m body ds) P:=by
 obtain⟨o,h1,h2⟩:=b;cases o with
 |nx ρ1=>exact⟨_,by unfold Dm.fn;rw[if_pos h,hρ,h1],h2⟩
 |ret r ρ1=>exact⟨_,by unfold Dm.fn;rw[if_pos h,hρ,h1],h2⟩
 |bk ρ1=>exact h2.elim
 |ct ρ1=>exact h2.elim
theorem Mw{o:Option RV}{r:RV}(h:Wr o fun x=>x=r):o=some r:=by obtain⟨x,h1,rfl⟩:=h;exact h1
theorem xM(AW:α->Dat)(p:α->Bool)(v:α->Dat)(bd:FB)(t:FT)(el:FE)(mk:Cell->Env)(hb:∀d c,bd d (mk c)=some (mk (.sh d))):∀(xs:List α) (c:Cell) (kM:List Dat),
  (∀x∈xs,t (mk (.sh (AW x)))=some (p x,mk (.sh (AW x))))->(∀x∈xs,p x=true->We el (mk (.sh (AW x))) fun w ρ'=>Wk ρ' w fun d ρ''=>d=v x/\ρ''=mk (.sh (AW x))) ->
  ∃c',b7 bd t el (xs.map AW) (mk c) kM=some (kM++(xs.filter p).map v,mk c')
 |[],c,kM,_,_=>⟨c,by simp[b7]⟩
 |x::xs,c,kM,ht,he=>by
  rw[Ds,b7,hb];dsimp only;rw[ht x JJ];have ht':=fun y hy=>ht y (JK _ hy);have he':=fun y hy=>he y (JK _ hy);by_cases h:p x=true
  ·obtain⟨w,ρ',h1,d,ρ'',h2,rfl,rfl⟩:=he x JJ h;rw[h];dsimp only;rw[h1];dsimp only;rw[h2];obtain⟨c',e⟩:=xM AW p v bd t el mk hb xs (.sh (AW x)) (kM++[v x]) ht' he';exact⟨c',by dsimp only;rw[e,KW h];simp⟩
  ·rw[Bool.not_eq_true]at h;rw[h];obtain⟨c',e⟩:=xM AW p v bd t el mk hb xs (.sh (AW x)) kM ht' he';exact⟨c',by dsimp only;rw[e,KY (by rw[h];decide)]⟩
theorem Ny(h:Wt t ρ fun c' ρ'=>c'=c/\ρ'=ρ):t ρ=some (c,ρ):=by obtain⟨_,_,h1,rfl,rfl⟩:=h;exact h1
theorem M1(AW:α->Dat)(xs:List α)(p:α->Bool)(v:α->Dat){it:FI}{k:Nat}{t:FT}{el:FE}{ρ ρ1:Env}{Q:Val->Env->Prop}
  (q:Q (.new (.lst ((xs.filter p).map v))) ρ1) (GR:it ρ=some (xs.map AW,ρ1)) (hk:ρ1.length=k) (hk0:k≠0) (hl:xs.length<=SZ)
  (ht:∀x∈xs,Wt t (ρ1++[.sh (AW x)]) fun c ρ'=>c=p x/\ρ'=ρ1++[.sh (AW x)])
  (he:∀x∈xs,p x=true->We el (ρ1++[.sh (AW x)]) fun w ρ'=>Wk ρ' w fun d ρ''=>d=v x/\ρ''=ρ1++[.sh (AW x)]):We (bS it 1 (bN k) t el) ρ Q:=by
 have bd:∀(d:Dat) (c:Cell),bN k d (ρ1++[c])=some (ρ1++[.sh d]):=fun d c=>by unfold bN;rw[if_neg hk0,K5 _ _ (by lia)];simp[hk]
 obtain⟨c',e⟩:=xM AW p v (bN k) t el (fun c=>ρ1++[c]) bd xs .un [] (fun x hx=>Ny (ht x hx)) he;refine⟨_,_,?_,q⟩;unfold bS;rw[GR];dsimp only;rw[if_pos (by rw[JM];exact hl)];show (match b7 _ _ _ _ (ρ1++[.un]) [] with | none=>none | some (ys,ρ2)=>some (Val.new (.lst ys),ρ2.take ρ1.length))=_;rw[e];dsimp only;rw[Jt,Me]
theorem NR(AW:α->Dat)(xs:List α)(p:α->Bool)(v:α->Dat){i:Nat}{k:Nat}{t:FT}{el:FE}{ρ:Env}{Q:Val->Env->Prop}{d:Dat}
  (q:Q (.new (.lst ((xs.filter p).map v))) ρ) (hi:ρ[i]?=some (.sh d)) (hd:AR d=some (xs.map AW)) (hk:ρ.length=k) (hk0:k≠0) (hl:xs.length<=SZ)
  (ht:∀x∈xs,Wt t (ρ++[.sh (AW x)]) fun c ρ'=>c=p x/\ρ'=ρ++[.sh (AW x)])
  (he:∀x∈xs,p x=true->We el (ρ++[.sh (AW x)]) fun w ρ'=>Wk ρ' w fun d ρ''=>d=v x/\ρ''=ρ++[.sh (AW x)]):We (bW i 1 (bN k) t el) ρ Q:=by
 have GR:iS (eV i) ρ=some (xs.map AW,ρ):=by
  unfold iS eV;rw[hi];cases d with
  |lst ys=>cases hd;rfl
  |tup ys=>cases hd;rfl
  |_=>cases hd
 obtain⟨a,ρ',h1,h2⟩:=M1 AW xs p v (Q:=Q) q GR hk hk0 hl ht he;refine⟨a,ρ',?_,h2⟩;unfold bW;rw[hi];exact h1
theorem Nu{α β:Type}(AW:α->Dat)(xs:List α)(f:α->β)(j_:β->Dat){it:FI}{k:Nat}{el:FE}{ρ ρ1:Env}{Q:Val->Env->Prop}
  (q:Q (.new (.lst ((xs.map f).map j_))) ρ1) (GR:it ρ=some (xs.map AW,ρ1)) (hk:ρ1.length=k) (hk0:k≠0) (hl:xs.length<=SZ)
  (he:∀x∈xs,We el (ρ1++[.sh (AW x)]) fun w ρ'=>Wk ρ' w fun d ρ''=>d=j_ (f x)/\ρ''=ρ1++[.sh (AW x)]):We (bS it 1 (bN k) az el) ρ Q:=
 M1 AW xs (fun _=>true) (fun x=>j_ (f x)) (by rw[Lb.mpr (fun _ _=>rfl)];rw[Kr]at q;exact q) GR hk hk0 hl (fun _ _=>Na ⟨rfl,rfl⟩) fun x hx _=>he x hx
theorem Nk{α β:Type}(AW:α->Dat)(xs:List α)(f:α->β)(j_:β->Dat){i:Nat}{k:Nat}{el:FE}{ρ:Env}{Q:Val->Env->Prop}{d:Dat}
  (q:Q (.new (.lst ((xs.map f).map j_))) ρ) (hi:ρ[i]?=some (.sh d)) (hd:AR d=some (xs.map AW)) (hk:ρ.length=k) (hk0:k≠0) (hl:xs.length<=SZ)
  (he:∀x∈xs,We el (ρ++[.sh (AW x)]) fun w ρ'=>Wk ρ' w fun d ρ''=>d=j_ (f x)/\ρ''=ρ++[.sh (AW x)]):We (bW i 1 (bN k) az el) ρ Q:=
 NR AW xs (fun _=>true) (fun x=>j_ (f x)) (by rw[Lb.mpr (fun _ _=>rfl)];rw[Kr]at q;exact q) hi hd hk hk0 hl (fun _ _=>Na ⟨rfl,rfl⟩) fun x hx _=>he x hx
theorem AS(i j:Int):gEq (.int i) (.int j)=vB (decide (i=j)):=by
 have:(i == j)=decide (i=j):=by by_cases h:i=j<;>simp[h]
 show vB (i == j)=_;rw[this]
theorem AU(i j:Int):gNe (.int i) (.int j)=vB (!decide (i=j)):=by
 have:(i == j)=decide (i=j):=by by_cases h:i=j<;>simp[h]
 show vB (!(i == j))=_;rw[this]
theorem M6(k:K (.val (.bl (decide (i=j)))))(ho:o=some (.int i))(hp:p=some (.int j)):Wg2 gEq o p K:=⟨_,_,_,ho,hp,AS i j,k⟩
theorem MU(k:K (.val (.bl (!decide (i=j)))))(ho:o=some (.int i))(hp:p=some (.int j)):Wg2 gNe o p K:=⟨_,_,_,ho,hp,AU i j,k⟩
theorem Nx(k:K (.val (.bl (decide (i<j)))))(ho:o=some (.int i))(hp:p=some (.int j)):Wg2 gLt o p K:=⟨_,_,_,ho,hp,rfl,k⟩
theorem Nq(k:K (.val (.bl (decide (i<=j)))))(ho:o=some (.int i))(hp:p=some (.int j)):Wg2 gLe o p K:=⟨_,_,_,ho,hp,rfl,k⟩
theorem Nb(k:K (.val (.bl (decide (j<i)))))(ho:o=some (.int i))(hp:p=some (.int j)):Wg2 gGt o p K:=⟨_,_,_,ho,hp,rfl,k⟩
theorem Nv{xs ys:List Dat}(k:K (.new (.lst (xs++ys))))(ho:o=some (.lst xs))(hp:p=some (.lst ys))(h:xs.length+ys.length<=SZ):Wg2 aN o p K:=⟨_,_,_,ho,hp,by unfold aN;dsimp only;rw[if_pos h],k⟩
theorem MX(k:K (.val (.int (i-j))))(ho:o=some (.int i))(hp:p=some (.int j)):Wg2 aZ o p K:=⟨_,_,_,ho,hp,rfl,k⟩
theorem M3(k:K (.val (.int (i % j))))(ho:o=some (.int i))(hp:p=some (.int j))(h:0<j):Wg2 aE o p K:=⟨_,_,_,ho,hp,by unfold aE;dsimp only;rw[if_pos h],k⟩
theorem Mr{d e:Dat}{v:Dat}(k:K (.val v))(ho:o=some d)(hp:p=some e)(h:gIx d e=some (.val v)):Wg2 gIx o p K:=⟨_,_,_,ho,hp,h,k⟩
theorem jJ(AW:α->Dat)(xs:List α)(i:Int)(h0:0<=i)(h1:i<xs.length):atI (xs.map AW) i=some (AW (xs[i.toNat]'(by omega))):=by unfold atI ixN;rw[JM,if_pos h0,if_pos h1];show (xs.map AW)[i.toNat]?=_;rw[JT,JX (by lia)];rfl
theorem Nf{AW:α->Dat}{xs:List α}{i:Int}(h0:0<=i)(h1:i<xs.length)(k:K (.val (AW (xs[i.toNat]'(by omega)))))(ho:o=some (.lst (xs.map AW)))(hp:p=some (.int i)):Wg2 gIx o p K:=
 ⟨_,_,_,ho,hp,by unfold gIx;dsimp only;rw[jJ AW xs i h0 h1];rfl,k⟩
theorem AV(i:Int)(xs:List Int):inD (.int i) (xs.map Dat.int)=decide (i∈xs):=by
 induction xs with
 |nil=>rfl
 |cons x xs ih=>
  have ih':(xs.map Dat.int).any (fun y=>eqD y (.int i))=decide (i∈xs):=ih;unfold inD;rw[Ds,List.any_cons,ih'];show ((x == i)||_)=_;by_cases h:x=i
  ·simp[h]
  ·have h':¬i=x:=fun z=>h z.symm;simp[h,h']
theorem Eg(xs:List Int):(xs.map Dat.int).all (okD 7)=true:=by rw[JZ];intro d hd;obtain⟨x,_,rfl⟩:=Kw.mp hd;rfl
theorem NK{i:Int}{xs:List Int}(k:K (.val (.bl (!decide (i∈xs)))))(ho:o=some (.int i))(hp:p=some (.lst (xs.map Dat.int))):Wg2 iN o p K:=
 ⟨_,_,_,ho,hp,by unfold iN;dsimp only;rw[show okD 8 (.int i)=true from rfl,Eg,AV];rfl,k⟩
theorem M4{o:Option (List Dat)}(k:K (.val (.int xs.length)))(ho:o=some [.tup xs]):WB aU o K:=⟨_,_,ho,rfl,k⟩
theorem Ng{o:Option (List Dat)}(k:K (.new (.lst xs)))(ho:o=some [.lst xs]):WB aT o K:=⟨_,_,ho,rfl,k⟩
theorem MG{o:Option Dat}(k:K v)(ho:o=some d)(h:g d=some v):Wg1 g o K:=⟨_,_,ho,h,k⟩
theorem nQ{Q:List Dat->Prop}(q:Q xs):∃ds,AR (.lst xs)=some ds/\Q ds:=⟨_,rfl,q⟩
theorem AX(xs:List Dat)(h:okD 8 (.lst xs)=true):gEq (.lst xs) (.lst [])=vB xs.isEmpty:=by unfold gEq;rw[h];cases xs<;>rfl
theorem BR(AW:α->Dat)(xs:List α)(h:∀x,okD 7 (AW x)=true):okD 8 (.lst (xs.map AW))=true:=by unfold okD;rw[JZ];intro d hd;obtain⟨x,_,rfl⟩:=Kw.mp hd;exact h x
theorem Nr(k:K (.val (.bl xs.isEmpty)))(ho:o=some (.lst xs))(hp:p=some (.lst []))(h:okD 8 (.lst xs)=true):Wg2 gEq o p K:=⟨_,_,_,ho,hp,AX xs h,k⟩
theorem M5{AW:α->Dat}{xs:List α}{o:Option (List Dat)}(k:K (.val (.int xs.length)))(ho:o=some [.lst (xs.map AW)]):WB aU o K:=⟨_,_,ho,by unfold aU;dsimp only;rw[JM],k⟩
theorem AZ{ρ ρ1 ρ2:Env}{W:Env->Prop}(h:bd d ρ=some ρ1)(hn:ρ1=ρ2)(w:W ρ2):∃ρ1,bd d ρ=some ρ1/\W ρ1:=⟨ρ1,h,hn▸w⟩
theorem xN(AW:α->Dat)(p:α->Bool)(v:α->Dat)(bd:FB)(t:FT)(el:FE)(e0:Env)(env:α->Env)(h0:∀x,bd (AW x) e0=some (env x))(h1:∀x y,bd (AW x) (env y)=some (env x)):∀(xs:List α) (kM:List Dat) (e:Env),(e=e0\/∃y,e=env y) ->
  (∀x∈xs,t (env x)=some (p x,env x))->(∀x∈xs,p x=true->We el (env x) fun w ρ'=>Wk ρ' w fun d ρ''=>d=v x/\ρ''=env x) ->
  ∃e',(e'=e0\/∃y,e'=env y)/\b7 bd t el (xs.map AW) e kM=some (kM++(xs.filter p).map v,e')
 |[],kM,e,he,_,_=>⟨e,he,by simp[b7]⟩
 |x::xs,kM,e,he,ht,hel=>by
  have hb:bd (AW x) e=some (env x):=by
   rcases he with rfl | ⟨y,rfl⟩
   ·exact h0 x
   ·exact h1 x y
  rw[Ds,b7,hb];dsimp only;rw[ht x JJ];have ht':=fun y hy=>ht y (JK _ hy);have he':=fun y hy=>hel y (JK _ hy);by_cases h:p x=true
  ·obtain⟨w,ρ',g1,d,ρ'',g2,rfl,rfl⟩:=hel x JJ h;rw[h];dsimp only;rw[g1];dsimp only;rw[g2];obtain⟨e',q,z⟩:=xN AW p v bd t el e0 env h0 h1 xs (kM++[v x]) _ (.inr ⟨x,rfl⟩) ht' he';exact⟨e',q,by dsimp only;rw[z,KW h];simp⟩
  ·rw[Bool.not_eq_true]at h;rw[h];obtain⟨e',q,z⟩:=xN AW p v bd t el e0 env h0 h1 xs kM _ (.inr ⟨x,rfl⟩) ht' he';exact⟨e',q,by dsimp only;rw[z,KY (by rw[h];decide)]⟩
theorem NC{α β:Type}(AW:α->Dat)(xs:List α)(p:α->Bool)(f:α->β)(j_:β->Dat)(env:α->Env){it:FI}{own:Nat}{bd:FB}{t:FT}{el:FE}{ρ ρ1:Env}{Q:Val->Env->Prop}
  (q:Q (.new (.lst (((xs.filter p).map f).map j_))) ρ1) (GR:it ρ=some (xs.map AW,ρ1)) (h0:∀x,bd (AW x) (ρ1++gc own .un)=some (env x)) (h1:∀x y,bd (AW x) (env y)=some (env x)) (h2:∀x,(env x).take ρ1.length=ρ1) (hl:xs.length<=SZ)
  (ht:∀x∈xs,Wt t (env x) fun c ρ'=>c=p x/\ρ'=env x)
  (he:∀x∈xs,p x=true->We el (env x) fun w ρ'=>Wk ρ' w fun d ρ''=>d=j_ (f x)/\ρ''=env x):We (bS it own bd t el) ρ Q:=by
 obtain⟨e',q',e⟩:=xN AW p (fun x=>j_ (f x)) bd t el _ env h0 h1 xs [] _ (.inl rfl) (fun x hx=>Ny (ht x hx)) he;refine⟨_,_,?_,q⟩;unfold bS;rw[GR];dsimp only;rw[if_pos (by rw[JM];exact hl),e];dsimp only;rw[Jt,Kr];have:e'.take ρ1.length=ρ1:=by
  rcases q' with rfl | ⟨y,rfl⟩
  ·exact Me
  ·exact h2 y
 rw[this];rfl
theorem vh(p:α->Bool)(xs:List α):bools (xs.map fun x=>Dat.bl (p x))=some (xs.map p):=by
 induction xs with
 |nil=>rfl
 |cons x xs ih=>rw[Ds,bools,ih];rfl
theorem Nc(p:α->Bool){xs:List α}{o:Option (List Dat)}(k:K (.val (.bl (xs.all p))))(ho:o=some [.lst (xs.map fun x=>Dat.bl (p x))]):WB oR o K:=⟨_,_,ho,by
 unfold oR;dsimp only;rw[vh];have:(xs.map p).all id=xs.all p:=by rw[Mh];rfl
 dsimp only;rw[this],k⟩
theorem M_{ρ ρ1:Env}(h:Wi it ρ fun x y=>x=ds/\y=ρ1):it ρ=some (ds,ρ1):=by obtain⟨_,_,h1,rfl,rfl⟩:=h;exact h1
theorem MY{ρ ρ':Env}{v:Val}(h:We e ρ fun x y=>x=v/\y=ρ'):e ρ=some (v,ρ'):=by obtain⟨_,_,h1,rfl,rfl⟩:=h;exact h1
def Wm(g:FM)(ρ:Env)(p:Dp)(N:Env->Prop)(R:RV->Env->Prop)(B C:Env->Prop):Prop:=∃o,g ρ p=some o/\KO N R B C o
end
section
variable{N:Env->Prop}{R:RV->Env->Prop}{B C:Env->Prop}{ρ:Env}{p:Dp}
theorem NL{j:Nat}{t:FT}{fs:FS}{g:FM}{ρ':Env}(h:Wt t ρ' fun c _=>c=false)(k:Wm g ρ p N R B C)(e:see j ρ p=ρ'):Wm (mIf j t fs g) ρ p N R B C:=by obtain⟨c,ρ1,h1,rfl⟩:=h;obtain⟨o,h3,h4⟩:=k;exact⟨o,by unfold mIf;rw[e,h1];exact h3,h4⟩
end
section
variable{N:Env->Prop}{R:RV->Env->Prop}{B C:Env->Prop}{ρ:Env}{p:Dp}
theorem NO{j:Nat}{f:List Dat->Option Dp}{as:List FE}{g:FM}(h:Was as ρ fun xs ρ1=>∃ds p ρ3,f ds=some p/\Wm g ρ3 p N R B C/\pks ρ1 xs=some ds/\eO p=true/\ρ1.set j .un=ρ3)(hj:j≠0):Ws (iX j f as g) ρ N R B C:=by obtain⟨xs,ρ1,h1,ds,p,ρ3,h2,⟨o,h3,h4⟩,h5,h6,rfl⟩:=h;exact⟨o,by unfold iX;rw[if_neg hj,h1];dsimp only;rw[h5];dsimp only;rw[h2];dsimp only;rw[if_pos h6];exact h3,h4⟩
end
section
variable{K:RV->Prop}{o p:Option Dat}{a:List Nat}{c:Nat}{ρ:Env}
theorem NQ{o:Option (List Dat)}(k:K (.val (.int (l9 a:Nat))))(ho:o=some [.str a])(h:a≠[]/\a.all dh=true/\a.length<=600):WB j5 o K:=⟨_,_,ho,by unfold j5;dsimp only;rw[if_pos h],k⟩
theorem MO{a b:List Nat}(k:K (.val (.str (a++b))))(ho:o=some (.str a))(hp:p=some (.str b))(hz:a.length+b.length<=SZ):Wg2 eG o p K:=⟨_,_,_,ho,hp,by unfold eG;dsimp only;rw[if_pos hz],k⟩
theorem NF{b:List Nat}(k:K (.val (.bl (b.contains c))))(ho:o=some (.str [c]))(hp:p=some (.str b)):Wg2 xC o p K:=⟨_,_,_,ho,hp,rfl,k⟩
theorem ND{i:Int}{m:Nat}(k:K (.val (.str [c])))(ho:o=some (.str a))(hp:p=some (.int i))(hz:a.length<=SZ)(h1:ixN a.length i=some m)(h2:a[m]?=some c):Wg2 vc o p K:=⟨_,_,_,ho,hp,by unfold vc;dsimp only;rw[if_pos hz,h1];dsimp only;rw[h2],k⟩
theorem MP{g:List Nat->Dat->Option RV}{a b:FE}{Q:Val->Env->Prop}(h:We a ρ fun x ρ1=>∃s,pk ρ1 x=some (.str s)/\We b ρ1 fun y ρ2=>∃d v,pk ρ2 y=some d/\g s d=some v/\Q v.ay ρ2):We (eS2 g a b) ρ Q:=by obtain⟨x,ρ1,e1,s,e2,y,ρ2,e3,d,v,e4,e5,q⟩:=h;exact⟨_,_,by unfold eS2;rw[e1];dsimp only;rw[e2];dsimp only;rw[e3];dsimp only;rw[e4];dsimp only;rw[e5],q⟩
theorem NT{a:FE}{Q:List Dat->Env->Prop}(h:We a ρ fun x ρ1=>∃s,pk ρ1 x=some (.str s)/\s.all (fun c=>decide (c<128))=true/\Q (s.map fun c=>.str [c]) ρ1):Wi (iTx a) ρ Q:=by obtain⟨x,ρ1,e1,s,e2,e3,q⟩:=h;exact⟨_,_,by unfold iTx;rw[e1];dsimp only;rw[e2];dsimp only;rw[if_pos e3],q⟩
noncomputable def bF(v:Nat):List Nat:=(Nat.toDigits 10 v).map Char.toNat
theorem mS(v:Nat):codes (toString ((v:Nat):Int))=bF v:=by unfold codes bF;show (Nat.repr v).toList.map _=_;rw[Nat.toList_repr]
theorem pN(v:Nat):l9 (bF v)=v:=PySem.W.KIN.val_back v
theorem eH(c:Nat):dh c=true↔48<=c/\c<=57:=by unfold dh;simp
theorem fm(v:Nat):(bF v).all dh=true:=by
 rw[JZ];intro c hc;obtain⟨ch,hch,e⟩:=Kw.mp hc;have r:=Nat.isDigit_of_mem_toDigits (by decide) (by decide) hch;rw[eH,<- e];have:(48<=ch.val/\ch.val<=57):=by
  unfold Char.isDigit at r
  simpa using r
 exact⟨by have:=this.1;exact this,by have:=this.2;exact this⟩
theorem nR(v:Nat):bF v≠[]:=by intro e;have h:=PyProof.Rows.tDigits_len_ge 10 v;unfold bF at e;rw[List.map_eq_nil_iff.mp e]at h;exact absurd h (by decide)
theorem bP{v k:Nat}(hk:1<=k)(hv:v<10 ^ k):(bF v).length<=k:=by unfold bF;rw[JM];exact PyProof.Rows.digits10_le hk hv
theorem vj{v:Nat}(h:(bF v).head?=some 48):bF v=[48]:=by
 have dig:PySem.NumText.AllDigits (bF v):=fun c hc=>(eH c).mp (JZ.mp (fm v) c hc);have e:=PySem.NumText.toDigits_all (bF v) dig;rw[show Ll (bF v)=v from pN v]at e;have hl:(bF v).length=(Nat.toDigits 10 v).length:=by unfold bF;rw[JM]
 cases hd:bF v with
 |nil=>exact absurd hd (nR v)
 |cons c r=>
  rw[hd]at h e hl;cases h;rw[List.dropWhile_cons,if_pos (by decide)]at e;have hr:(r.dropWhile (· == 48)).length<=r.length:=(List.dropWhile_sublist _).length_le;cases hw:r.dropWhile (· == 48) with
  |nil=>rw[hw]at e;rw[e]at hl;have:r=[]:=List.eq_nil_of_length_eq_zero (by simpa using hl);rw[this]
  |cons a b=>
   rw[hw]at e hr;rw[e]at hl;simp at hl hr
   lia
theorem vm:∀c,c<58->[48,49,50,51,52,53,54,55,56,57].contains c=dh c:=by decide
theorem Eh(c:Nat):[48,49,50,51,52,53,54,55,56,57].contains c=dh c:=by
 by_cases h:c<58
 ·exact vm c h
 ·have h1:dh c=false:=by
   unfold dh;rw[decide_eq_false (show ¬c<=57 from fun z=>h (Nat.lt_succ_of_le z)),Bool.and_false]
  have h2:[48,49,50,51,52,53,54,55,56,57].contains c=false:=by
   cases q:[48,49,50,51,52,53,54,55,56,57].contains c with
   |false=>rfl
   |true=>
    have m:=List.contains_iff_mem.mp q;have b:∀x∈[48,49,50,51,52,53,54,55,56,57],x<58:=by decide
    exact absurd (b c m) h
  rw[h1,h2]
end
end Dm
namespace P
open Dm
noncomputable def xO:List Dat->Option RV:=fn 1 0
  (sR (bq (e1 (jB isI) (eV 0)) (bC (e1 (jB isB) (eV 0)))))
noncomputable def gk:List Dat->Option RV:=fn 3 0
  (sR (bq (eF xO [(eV 0)]) (ao gLe gLe (eV 1) (eV 0) (eV 2))))
noncomputable def rG:List Dat->Option RV:=fn 1 0
  (sR (eF gk [(eV 0),(eC (.int 1)),(eC (.int 10))]))
noncomputable def xP:List Dat->Option RV:=fn 2 0
  (sR (eF gk [(eV 1),(eC (.int 0)),(e2 aZ (eV 0) (eC (.int 1)))]))
noncomputable def kc:List Dat->Option RV:=fn 1 0
  (sR (eF gk [(eV 0),(eC (.int 1)),(eC (.int 6))]))
noncomputable def A0:List Dat->Option RV:=fn 1 0
  (sR (eF gk [(eV 0),(eC (.int 0)),(e2 br (eC (.int 10)) (eC (.int 30)))]))
noncomputable def A1:List Dat->Option RV:=fn 2 0
  (ai (sIf (tOr (aR (tV (e1 (jB isT) (eV 1)))) (tV (e2 gNe (eB aU [(eV 1)]) (eC (.int 3))))) (sR (eC (.bl false))) sNx)
  (sR (bq (eF A0 [(e2 gIx (eV 1) (eC (.int 0)))]) (bq (eF xP [(eV 0),(e2 gIx (eV 1) (eC (.int 1)))]) (eF xP [(eV 0),(e2 gIx (eV 1) (eC (.int 2)))])))))
noncomputable def A2:List Dat->Option RV:=fn 2 0
  (sR (bq (eF A1 [(eV 0),(eV 1)]) (e2 gLe (e2 gIx (eV 1) (eC (.int 1))) (e2 gIx (eV 1) (eC (.int 2))))))
noncomputable def A3:List Dat->Option RV:=fn 1 0
  (sR (eB oR [(bS (iR2 (eC (.int 1)) (eB aU [(eV 0)])) 1 (bN 1) az (e2 gLt (e2 gIx (eV 0) (e2 aZ (eV 1) (eC (.int 1)))) (e2 gIx (eV 0) (eV 1))))]))
noncomputable def A4:List Dat->Option RV:=fn 1 0
  (sIf (aR (tV (eF kc [(eV 0)]))) (fun _=>none) sNx)
noncomputable def tN:List Dat->Option RV:=fn 3 0
  (sR (bW 0 1 (bN 3) az (eIf (tV (e2 gEq (eV 3) (e2 gIx (eV 0) (eV 2)))) (e2 gIx (eV 0) (eV 1)) (eV 3))))
noncomputable def gu:FS:=
  (sIf (tV (e2 gNe (e2 gIx (eV 4) (eV 1)) (e2 gIx (eV 4) (eV 2)))) (sR (e2 aN (eV 3) (eC (.int 1)))) sNx)
noncomputable def tO:List Dat->Option RV:=fn 3 2
  (ai (aY (iEn (eV 0)) (bT [3,4])
  gu)
  (sR (eC (.int 0))))
noncomputable def kg:FS:=
  (ai (sA 8 (eF tO [(eV 3),(eV 6),(eV 7)]))
  (ai (sIf (tV (e2 gGt (eV 8) (eC (.int 0)))) (bB 3 (e2 aZ (eV 8) (eC (.int 1))) (eF tN [(e2 gIx (eV 3) (e2 aZ (eV 8) (eC (.int 1)))),(eV 6),(eV 7)])) sNx)
  (bA 4 (eV 8))))
noncomputable def tP:List Dat->Option RV:=fn 3 6
  (ai (sE (eF A4 [(eV 2)]))
  (ai (sA 3 (bS (iR1 (eV 2)) 1 (bN 9) az (eB eW [(eV 0)])))
  (ai (sA 4 (aW []))
  (ai (aY (uZ (eV 1)) (bT [5,6,7])
  kg)
  (sR (e1 iV (eV 4)))))))
noncomputable def fY:List Dat->Option RV:=fn 2 0
  (ai (sIf (tOr (aR (tV (eF rG [(eV 0)]))) (tOr (aR (tV (e1 (jB isL) (eV 1)))) (tV (e2 gGt (eB aU [(eV 1)]) (eC (.int 60)))))) (sR (eC (.bl false))) sNx)
  (ai (sIf (aR (tV (eB oR [(bW 1 1 (bN 2) az (eF A2 [(eV 0),(eV 2)]))]))) (sR (eC (.bl false))) sNx)
  (sR (eF A3 [(bW 1 1 (bN 2) az (e2 gIx (eV 2) (eC (.int 0))))]))))
noncomputable def cF:List Dat->Option RV:=fn 1 0
  (ai (sIf (tOr (aR (tV (e1 (jB isT) (eV 0)))) (tV (e2 gNe (eB aU [(eV 0)]) (eC (.int 3))))) (sR (eC (.bl false))) sNx)
  (ai (sIf (tOr (aR (tV (eF kc [(e2 gIx (eV 0) (eC (.int 1)))]))) (aR (tV (eF fY [(e2 gIx (eV 0) (eC (.int 0))),(e2 gIx (eV 0) (eC (.int 2)))])))) (sR (eC (.bl false))) sNx)
  (sR (e2 iN (eC (.int 0)) (eF tP [(e2 gIx (eV 0) (eC (.int 0))),(e2 gIx (eV 0) (eC (.int 2))),(e2 gIx (eV 0) (eC (.int 1)))])))))
noncomputable def tQ:List Dat->Option RV:=fn 1 0
  (sIf (aR (tV (eF cF [(eV 0)]))) (fun _=>none) sNx)
noncomputable def mT:List Dat->Option RV:=fn 1 0
  (ai (sIf (tV (e2 gEq (eB aU [(eV 0)]) (eC (.int 0)))) (sR (eC (.str [110,111,110,101]))) sNx)
  (sR (eS2 jn (eC (.str [59,32])) (bW 0 3 (bT [1,2,3]) az (eJS [(e1 jD (eV 1)),(eC (.str [58])),(e1 jD (eV 2)),(eC (.str [45])),(e1 jD (eV 3))])))))
noncomputable def tR:List Dat->Option RV:=fn 1 0
  (ai (sE (eF tQ [(eV 0)]))
  (sR (eS2 jn (eC (.str [32])) (aW [(eB dP [(e2 gIx (eV 0) (eC (.int 0)))]),(eB dP [(e2 gIx (eV 0) (eC (.int 1)))]),(eF mT [(e2 gIx (eV 0) (eC (.int 2)))])]))))
noncomputable def cG:List Dat->Option RV:=fn 1 0
  (ai (sIf (tOr (aR (tV (ao gLe gLe (eC (.int 1)) (eB mO [(eV 0)]) (eC (.int 60))))) (aR (tV (eB oR [(bS (iTx (eV 0)) 1 (bN 1) az (e2 xC (eV 1) (eC (.str [48,49,50,51,52,53,54,55,56,57]))))])))) (sR (eC .non)) sNx)
  (ai (sIf (bz (tV (e2 gEq (e2 vc (eV 0) (eC (.int 0))) (eC (.str [48])))) (tV (e2 gNe (eV 0) (eC (.str [48]))))) (sR (eC .non)) sNx)
  (sR (eB j5 [(eV 0)]))))
noncomputable def tS:List Dat->Option RV:=fn 1 2
  (ai (sA 1 (eS2 dG (eV 0) (eC (.str [58]))))
  (ai (sA 2 (eS2 dG (e2 gIx (eV 1) (eC (.int 2))) (eC (.str [45]))))
  (sR (a_ [(eF cG [(e2 gIx (eV 1) (eC (.int 0)))]),(eF cG [(e2 gIx (eV 2) (eC (.int 0)))]),(eF cG [(e2 gIx (eV 2) (eC (.int 2)))])]))))
noncomputable def eX:List Dat->Option RV:=fn 1 0
  (ai (sIf (tV (e2 gEq (eV 0) (eC (.str [110,111,110,101])))) (sR (aW [])) sNx)
  (sR (bS (iS (eS2 i7 (eV 0) (eC (.str [59,32])))) 1 (bN 1) az (eF tS [(eV 1)]))))
noncomputable def pP:List Dat->Option RV:=fn 2 1
  (ai (sA 2 (eF eX [(eV 1)]))
  (ai (sIf (aR (tV (eF fY [(eV 0),(eV 2)]))) (fun _=>none) sNx)
  (sR (eV 2))))
noncomputable def tT:List Dat->Option RV:=fn 1 3
  (ai (sA 1 (eS2 dG (eV 0) (eC (.str [32]))))
  (ai (sA 2 (eS2 dG (e2 gIx (eV 1) (eC (.int 2))) (eC (.str [32]))))
  (ai (sA 3 (a_ [(eF cG [(e2 gIx (eV 1) (eC (.int 0)))]),(eF cG [(e2 gIx (eV 2) (eC (.int 0)))]),(eF eX [(e2 gIx (eV 2) (eC (.int 2)))])]))
  (ai (sIf (aR (tV (eF cF [(eV 3)]))) (fun _=>none) sNx)
  (sR (eV 3))))))
noncomputable def dQ:List Dat->Option Dp:=fnP 1 3
  (cA (sA 1 (eS2 dG (eV 0) (eC (.str [32]))))
  (cA (sA 2 (eS2 dG (e2 gIx (eV 1) (eC (.int 2))) (eC (.str [32]))))
  (pL 3 (pT [(pO (eF cG [(e2 gIx (eV 1) (eC (.int 0)))])),(pO (eF cG [(e2 gIx (eV 2) (eC (.int 0)))])),(pO (eF eX [(e2 gIx (eV 2) (eC (.int 2)))]))])
  (xB (cIf 3 (aR (tV (eF cF [(eV 3)]))) cNo cNx)
  xJ))))
noncomputable def tU:List Dat->Option RV:=fn 2 1
  (ai (sA 2 (e2 aE (e2 aS (e2 aN (e2 aN (e2 aE (eV 0) (eC (.int 2147483629))) (e2 aS (eC (.int 7919)) (eV 1))) (eC (.int 11))) (eC (.int 48271))) (eC (.int 2147483647))))
  (ai (sA 2 (e2 aE (e2 aN (e2 aE (e2 aS (eV 2) (eV 2)) (eC (.int 2147483629))) (e2 aS (eC (.int 104729)) (eV 1))) (eC (.int 2147483629))))
  (sR (e2 aE (e2 aS (eV 2) (eC (.int 39373))) (eC (.int 2147483647))))))
noncomputable def i_:FS:=
  (ai (sA 6 (e2 aN (e2 aS (eV 6) (eC (.int 2147483647))) (eF tU [(eV 0),(e2 aN (e2 aS (eC (.int 8)) (eV 5)) (eV 7))])))
  (sA 7 (e2 aN (eV 7) (eC (.int 1)))))
noncomputable def nS:FS:=
  (ai (sA 6 (eV 4))
  (ai (sIf (tV (e2 gGt (eV 4) (eC (.int 0)))) (sA 4 (e2 aX (eV 4) (eV 2))) (ai (sA 6 (eC (.int 0)))
  (ai (sA 7 (eC (.int 0)))
  (whD (tV (e2 gLt (e2 aS (eV 7) (eC (.int 30))) (e2 aN (e1 aH (eV 2)) (eC (.int 8)))))
  i_ 100))))
  (bA 3 (e2 aE (eV 6) (eV 2)))))
noncomputable def tW:List Dat->Option RV:=fn 3 5
  (ai (sA 3 (aW []))
  (ai (sA 4 (e2 aZ (eV 0) (e2 br (eC (.int 10)) (eC (.int 18)))))
  (ai (aY (iR1 (eV 1)) (bN 5)
  nS)
  (sR (eV 3)))))
noncomputable def tX:List Dat->Option RV:=fn 4 1
  (ai (sA 4 (e2 aE (eV 2) (eV 0)))
  (ai (sIf (tV (e2 gEq (eV 1) (eC (.int 0)))) (sR (a_ [(eV 4),(e2 aE (eV 3) (eV 0))])) sNx)
  (ai (sIf (tV (e2 gEq (eV 1) (eC (.int 1)))) (sR (a_ [(e2 aE (eV 2) (eB aL [(eV 0),(eC (.int 3))])),(e2 aE (eV 3) (eB aL [(eV 0),(eC (.int 2))]))])) sNx)
  (ai (sIf (tV (e2 gEq (eV 1) (eC (.int 2)))) (sR (a_ [(eV 4),(e2 aE (e2 aN (e2 aN (eV 4) (eC (.int 1))) (e2 aX (e2 aE (eV 3) (eC (.int 5))) (eC (.int 4)))) (eV 0))])) sNx)
  (sR (a_ [(eV 4),(e2 aE (e2 aN (eV 4) (e2 aS (eC (.int 2)) (e2 aE (eV 3) (eV 0)))) (eV 0))]))))))
noncomputable def kh:FS:=
  (ai (sU [8,9] (eF tX [(eV 2),(e2 aE (e2 gIx (eV 0) (eC (.int 3))) (eC (.int 4))),(e2 gIx (eV 0) (e2 aN (eC (.int 4)) (e2 aS (eC (.int 3)) (eV 7)))),(e2 gIx (eV 0) (e2 aN (eC (.int 5)) (e2 aS (eC (.int 3)) (eV 7))))]))
  (ai (bA 6 (a_ [(eV 5),(eB aL [(eV 8),(eV 9)]),(eB aQ [(eV 8),(eV 9)])]))
  (sA 5 (e2 aN (e2 aN (eV 5) (eC (.int 1))) (e2 aE (e2 gIx (eV 0) (e2 aN (eC (.int 6)) (e2 aS (eC (.int 3)) (eV 7)))) (eV 4))))))
noncomputable def cT:List Dat->Option Dp:=fnP 2 8
  (cA (sA 2 (e2 aN (eC (.int 1)) (e2 aE (e2 gIx (eV 0) (eC (.int 0))) (eC (.int 6)))))
  (cA (sIf (tV (e2 gEq (e2 aE (e2 aX (e2 gIx (eV 0) (eC (.int 0))) (eC (.int 6))) (eC (.int 8))) (eC (.int 1)))) (sA 2 (e2 aN (eC (.int 7)) (e2 aE (e2 aX (e2 gIx (eV 0) (eC (.int 0))) (eC (.int 48))) (eC (.int 4))))) sNx)
  (cA (sA 3 (e2 aE (e2 gIx (eV 0) (eC (.int 1))) (eC (.int 13))))
  (cA (sIf (tV (e2 gEq (e2 aE (e2 aX (e2 gIx (eV 0) (eC (.int 1))) (eC (.int 13))) (eC (.int 8))) (eC (.int 1)))) (sA 3 (e2 aN (eC (.int 13)) (e2 aE (e2 aX (e2 gIx (eV 0) (eC (.int 1))) (eC (.int 104))) (eC (.int 48))))) sNx)
  (cA (sA 4 (e2 gIx (aW [(eC (.int 1)),(eC (.int 4)),(e2 br (eC (.int 10)) (eC (.int 28)))]) (e2 aE (e2 gIx (eV 0) (eC (.int 2))) (eC (.int 3)))))
  (cA (sA 5 (e2 gIx (aW [(eC (.int 0)),(e2 aE (e2 aX (e2 gIx (eV 0) (eC (.int 2))) (eC (.int 12))) (eC (.int 100))),(e2 aE (e2 gIx (eV 0) (eC (.int 3))) (e2 br (eC (.int 10)) (eC (.int 29))))]) (e2 aE (e2 aX (e2 gIx (eV 0) (eC (.int 2))) (eC (.int 3))) (eC (.int 3)))))
  (cA (sA 6 (aW []))
  (cA (aY (iR1 (eB aO [(eV 3),(eV 1),(e2 aX (e2 aZ (eB aU [(eV 0)]) (eC (.int 4))) (eC (.int 3)))])) (bN 7)
  kh)
  (qR (pT [(pO (eV 2)),(pO (eV 6))]))))))))))
noncomputable def pQ:List Dat->Option RV:=fn 1 0
  (sR (e2 gIx (aW [(e2 aN (eC (.int 1)) (e2 aE (eV 0) (eC (.int 4)))),(e2 aN (eC (.int 1)) (e2 aE (e2 aX (eV 0) (eC (.int 32))) (eC (.int 6))))]) (eB bD [(e2 gEq (e2 aE (eV 0) (eC (.int 8))) (eC (.int 1)))])))
noncomputable def ki:FS:=
  (ai (sA 8 (e2 gIx (eV 4) (eV 6)))
  (ai (sA 9 (e2 gIx (eV 4) (eV 7)))
  (sA 4 (bW 4 1 (bN 10) az (eIf (tV (e2 gEq (eV 10) (eV 8))) (eV 9) (eV 10))))))
noncomputable def tY:List Dat->Option RV:=fn 4 6
  (ai (sA 4 (eB eW [(eV 0)]))
  (ai (aY (iS (eV 1)) (bT [5,6,7])
  ki)
  (sR (e2 gEq (e2 gIx (eV 4) (eV 2)) (e2 gIx (eV 4) (eV 3))))))
noncomputable def nT:FS:=
  (ai (sA 6 (bS (iR2 (e2 aN (eV 4) (eC (.int 1))) (eB aU [(eV 1)])) 1 (bN 7) (tV (e2 gEq (e2 gIx (eV 3) (eV 7)) (eV 5))) (e2 gIx (eV 1) (eV 7))))
  (sIf (aR (tV (eF tY [(eV 0),(eV 6),(e2 gIx (e2 gIx (eV 1) (eV 4)) (eC (.int 1))),(e2 gIx (e2 gIx (eV 1) (eV 4)) (eC (.int 2)))]))) (bB 3 (eV 4) (eV 5)) sNx))
noncomputable def kj:FS:=
  (aY (iRd (eV 2) (eC (.int 0)) (e1 bu (eC (.int 1)))) (bN 5)
  nT)
noncomputable def tZ:List Dat->Option RV:=fn 3 4
  (ai (sA 3 (e2 aS (aW [(eC (.int 0))]) (eB aU [(eV 1)])))
  (ai (aY (iRd (e2 aZ (eB aU [(eV 1)]) (eC (.int 1))) (e1 bu (eC (.int 1))) (e1 bu (eC (.int 1)))) (bN 4)
  kj)
  (sR (eV 3))))
noncomputable def pR:List Dat->Option RV:=fn 1 0
  (ai (sIf (tV (e2 gEq (eV 0) (aW []))) (sR (eC (.str [110,111,110,101]))) sNx)
  (sR (eS2 jn (eC (.str [59,32])) (bW 0 1 (bN 1) az (e2 eG (e2 eG (e2 eG (e2 eG (eB dP [(e2 gIx (eV 1) (eC (.int 0)))]) (eC (.str [58]))) (eB dP [(e2 gIx (eV 1) (eC (.int 1)))])) (eC (.str [45]))) (eB dP [(e2 gIx (eV 1) (eC (.int 2)))]))))))
noncomputable def rH:FS:=
  (ai (sA 2 (eF tW [(eV 1),(eC (.int 187)),(e2 br (eC (.int 10)) (eC (.int 30)))]))
  (ai (i9 3 4 cT [(eSl (eV 2) (some (eC (.int 3))) none),(eC (.int 59))])
  (ai (sIf (tV (e2 gEq (e2 aE (e2 gIx (eV 2) (eC (.int 1))) (eC (.int 4))) (eC (.int 1)))) (bA 4 (a_ [(e2 br (eC (.int 10)) (eC (.int 30))),(eC (.int 0)),(e2 aZ (eV 3) (eC (.int 1)))])) sNx)
  (ai (sA 5 (eF pQ [(e2 gIx (eV 2) (eC (.int 0)))]))
  (ai (sA 6 (eB aT [(eV 4)]))
  (ai (sA 7 (eF pR [(eV 4)]))
  (ai (sIf (tOr (tV (e2 gNe (eF mT [(eV 6)]) (eV 7))) (tOr (tV (e2 gNe (eV 6) (eV 4))) (aR (tV (e1 (jB isS) (eF mT [(eV 6)])))))) (sR (eC (.bl false))) sNx)
  (ai (sA 8 (eF pP [(eV 3),(eV 7)]))
  (ai (sIf (tOr (aR (tV (e1 (jB isL) (eV 8)))) (tV (e2 gNe (eV 8) (eV 4)))) (sR (eC (.bl false))) sNx)
  (ai (bA 8 (a_ [(eC (.int 0)),(eC (.int 0)),(eC (.int 0))]))
  (ai (sIf (tV (e2 gNe (eF pP [(eV 3),(eV 7)]) (eV 4))) (sR (eC (.bl false))) sNx)
  (ai (sA 9 (eF tZ [(eV 3),(eV 4),(eV 5)]))
  (ai (sA 10 (a_ [(eV 3),(eV 5),(bS (Aj (eV 4) (eV 9)) 2 (bT [11,12]) (tV (e2 gGt (eV 12) (eC (.int 0)))) (eV 11))]))
  (ai (sA 7 (e2 eG (e2 eG (e2 eG (e2 eG (eB dP [(eV 3)]) (eC (.str [32]))) (eB dP [(eV 5)])) (eC (.str [32]))) (eF pR [(e2 gIx (eV 10) (eC (.int 2)))])))
  (ai (sIf (tV (e2 gNe (eF tR [(eV 10)]) (eV 7))) (sR (eC (.bl false))) sNx)
  (iX 8 dQ [(eV 7)]
  (mIf 8 (tOr (aR (tV (e1 (jB isT) (eV 8)))) (tOr (tV (e2 gNe (eV 8) (eV 10))) (aR (tV (e1 (jB isL) (e2 gIx (eV 8) (eC (.int 2)))))))) (sR (eC (.bl false)))
  (vg 2 (a_ [(eC (.int 0)),(eC (.int 0)),(eC (.int 0))])
  (sIf (tV (e2 gNe (eF tT [(eV 7)]) (eV 10))) (sR (eC (.bl false))) sNx)))))))))))))))))))
noncomputable def ko:List Dat->Option RV:=fn 1 10
  (ai (aY (iS (e2 aN (eSl (eV 0) none (some (eC (.int 10)))) (aW [(eB aU [(eV 0)])]))) (bN 1)
  rH)
  (sR (eC (.bl true))))
end P
local macro_rules|`(tactic|trivial)=>`(tactic|first | (dsimp only[List.set];first | done | rfl) | rfl)
local macro_rules | `(tactic| array_get_dec)=>`(tactic| first | with_reducible refine Dm.Mq ?_ | with_reducible refine Dm.Mm ?_ | ((with_reducible apply Dm.K_);(focus rfl)) | ((with_reducible apply Dm.MI);(focus rfl)) | with_reducible refine Dm.L_ ?_ | (refine Dm.MJ ?_ (by trivial)) | (refine Dm.MR ?_ (by trivial)) | (refine Dm.WA.slot ?_ rfl (by trivial)) | with_reducible refine Dm.MM ?_ (by decide) | with_reducible refine Dm.My ?_ | with_reducible refine Dm.Mt ?_ | with_reducible refine Dm.Mu ?_ | with_reducible refine Dm.Nt ?_ | with_reducible refine Dm.MC ?_ | with_reducible refine Dm.Na ?_ | (refine Dm.Mn ?_) | (refine Dm.l_.mk ?_) | with_reducible refine Dm.MF ?_ | with_reducible refine Dm.Mz ?_ | with_reducible refine Dm.J_ ?_ | with_reducible refine Dm.m_ ?_ | with_reducible refine Dm.ME ?_ | with_reducible refine Dm.Ms ?_ | with_reducible refine Dm.M0 ?_ | with_reducible refine Dm.M7 ?_ | with_reducible refine Dm.ML ?_ | with_reducible refine Dm.We.If ?_ | with_reducible refine Dm.MQ ?_ | with_reducible refine Dm.We.Or ?_ | with_reducible refine Dm.We.Not ?_ | with_reducible refine Dm.Nm ?_ | with_reducible refine Dm.We.SlT ?_ | with_reducible refine Dm.Wp.none ?_ | with_reducible refine Dm.Wp.some ?_ | (refine Dm.Wsl.A (AW:=Dat.int) ?_ rfl) | (refine Dm.Wsl.mk ?_ rfl) | (refine Dm.MN ?_ rfl (by trivial) (by exact Nat.le_of_ble_eq_true rfl)) | (refine Dm.MH ?_) | (refine Dm.M9 ?_) | (refine Dm.Wk.slot ?_ rfl (by trivial)) | with_reducible refine Dm.We.Dn ?_ | with_reducible refine Dm.We.D1 ?_ | with_reducible refine Dm.Ws.Jl ?_ | (refine Dm.Jm ?_ rfl) | (refine Dm.IW rfl ?_) | (refine Dm.HU ?_ rfl (by trivial) ?_) | (refine Dm.M8 ?_ rfl) | (refine Dm.rF ?_ rfl (by trivial) ?_) | with_reducible refine Dm.Ws.U ?_ | (refine Dm.IX ?_ rfl (by trivial)) | with_reducible refine Dm.Mv ?_ | (refine Dm.WR.new ?_) | (refine Dm.Nn ?_) | (refine Dm.Nd ?_ rfl) | with_reducible refine Dm.MA ?_ | with_reducible refine Dm.Ws.bk ?_ | with_reducible refine Dm.Ws.ct ?_ | with_reducible refine Dm.NJ ?_ | with_reducible refine Dm.Np ?_ | with_reducible refine Dm.Nz ?_ | with_reducible refine Dm.Wi.L ?_ | with_reducible refine Dm.Wi.R1 ?_ | with_reducible refine Dm.NB ?_ | (refine Dm.nQ ?_) | (refine Dm.HV ?_) | (refine Dm.M6 ?_ rfl rfl) | (refine Dm.MU ?_ rfl rfl) | (refine Dm.Nr ?_ rfl rfl ?_) | (refine Dm.Wg2.Ji ?_ rfl rfl ?_) | (refine Dm.Wg2.eqb ?_ rfl rfl) | (refine Dm.Wg2.neb ?_ rfl rfl) | (refine Dm.Wg2.IY ?_ rfl rfl) | (refine Dm.Wg2.isb ?_ rfl rfl) | (refine Dm.Nx ?_ rfl rfl) | (refine Dm.Nq ?_ rfl rfl) | (refine Dm.Nb ?_ rfl rfl) | (refine Dm.Wg2.ge ?_ rfl rfl) | (refine Dm.Wg2.add ?_ rfl rfl) | (refine Dm.Wg2.Jo ?_ rfl rfl ?_) | (refine Dm.Wg2.Jj ?_ rfl rfl ?_) | (refine Dm.Nv ?_ rfl rfl ?_) | (refine Dm.MX ?_ rfl rfl) | (refine Dm.Wg2.mul ?_ rfl rfl (by first | exact Or.inl (by decide) | exact Or.inr (by decide))) | (refine Dm.Wg2.mul ?_ rfl rfl ?_) | (refine Dm.Wg2.div ?_ rfl rfl (by decide)) | (refine Dm.Wg2.div ?_ rfl rfl ?_) | (refine Dm.M3 ?_ rfl rfl (by decide)) | (refine Dm.M3 ?_ rfl rfl ?_) | (refine Dm.Wg2.din ?_ rfl rfl) | (refine Dm.Wg2.Jp ?_ rfl rfl) | (refine Dm.Wg2.inP ?_ rfl rfl) | (refine Dm.Wg2.Jq ?_ rfl rfl) | (refine Dm.Mr ?_ rfl rfl rfl) | (refine Dm.M5 (AW:=Dat.int) ?_ rfl) | (refine Dm.WB.len ?_ rfl) | (refine Dm.M4 ?_ rfl) | (refine Dm.WB.min2 ?_ rfl) | (refine Dm.WB.max2 ?_ rfl) | (refine Dm.Ng ?_ rfl) | (refine Dm.WB.int ?_ rfl) | (refine Dm.WB.sum2 ?_ rfl ?_) | (refine Dm.Wg1.Jr (AW:=Dat.int) ?_ rfl) | (refine Dm.MG ?_ rfl rfl))
namespace P
open Dm
section
variable{w:List Nat}{a b:List Nat}{o p:Option Dat}{K:RV->Prop}{gs:List (Int->Int)}{ms:List Int}{r:List Tie}{s:List Nat}{ts us:List Tie}{ρ:Env}{k:Int}{n:Int}{f:Int->Int}{x y:Int}{α:Type}{t:Tie}
theorem eK(i j:Int):aN (.int i) (.int j)=vI (i+j):=rfl
theorem ja(b:Bool):aG (.bl b)=false:=rfl
theorem fL(b:Int):aG (.int b)=false:=rfl
theorem fM:aG .non=false:=rfl
noncomputable def mixed(cell k:Int):Int:=
 let n1:=(cell % 2147483629+7919*k+11)*48271 % 2147483647
 let n2:=(n1*n1 % 2147483629+104729*k) % 2147483629
 n2*39373 % 2147483647
theorem inB{a m:Int}(h0:0<m)(h1:m<=18446744073709551616):-B64<a % m/\a % m<B64:=by
 have h2:=Int.emod_nonneg a (Int.ne_of_gt h0);have h3:=Int.emod_lt_of_pos a h0;unfold B64
 lia
theorem xQ(cell k:Int):tU [.int cell,.int k]=some (.val (.int (mixed cell k))):=by unfold tU mixed;simp(config:={ decide:=true }) only[Dm.fn,Dm.ai,Dm.sA,Dm.sR,Dm.sE,Dm.sU,Dm.sIf,Dm.sNx,Dm.bA,Dm.bB,Dm.aY,Dm.e1,Dm.e2,Dm.eB,Dm.eAs,Dm.eC,Dm.eV,Dm.a_,Dm.aW,Dm.eF,Dm.eIf,Dm.bq,Dm.bC,Dm.tV,Dm.aR,Dm.bz,Dm.tOr,Dm.az,Dm.pk,Dm.tk,Dm.pks,Dm.tks,RV.ay,RV.dat,Dm.aG,Dm.aN,Dm.aZ,Dm.aS,Dm.aX,Dm.aE,Dm.br,Dm.gLt,Dm.gLe,Dm.gGt,Dm.bu,Dm.aH,Dm.aU,Dm.aL,Dm.aQ,Dm.aO,Dm.aT,Dm.bD,Dm.isI,Dm.isB,Dm.isL,Dm.isT,Dm.vB,Dm.vI,Ds,JG,gp,Ju,Jt,Jy,gc,Dk,gV,Jx,Jv,Jw,JI,if_true,if_false,JD,Dm.iR1,Dm.iR2,Dm.iS,Dm.bN,Dm.bT,Dm.sets,reduceIte,JF,Dm.ao,JA,JB,JE,JC,true_or,or_true,true_and,and_true,decide_true,decide_false,false_or,or_false,false_and,and_false];rw[if_pos (Or.inl (inB (by decide) (by decide)))];simp(config:={ decide:=true }) only[Dm.fn,Dm.ai,Dm.sA,Dm.sR,Dm.sE,Dm.sU,Dm.sIf,Dm.sNx,Dm.bA,Dm.bB,Dm.aY,Dm.e1,Dm.e2,Dm.eB,Dm.eAs,Dm.eC,Dm.eV,Dm.a_,Dm.aW,Dm.eF,Dm.eIf,Dm.bq,Dm.bC,Dm.tV,Dm.aR,Dm.bz,Dm.tOr,Dm.az,Dm.pk,Dm.tk,Dm.pks,Dm.tks,RV.ay,RV.dat,Dm.aG,Dm.aN,Dm.aZ,Dm.aS,Dm.aX,Dm.aE,Dm.br,Dm.gLt,Dm.gLe,Dm.gGt,Dm.bu,Dm.aH,Dm.aU,Dm.aL,Dm.aQ,Dm.aO,Dm.aT,Dm.bD,Dm.isI,Dm.isB,Dm.isL,Dm.isT,Dm.vB,Dm.vI,Ds,JG,gp,Ju,Jt,Jy,gc,Dk,gV,Jx,Jv,Jw,JI,if_true,if_false,JD,Dm.iR1,Dm.iR2,Dm.iS,Dm.bN,Dm.bT,Dm.sets,reduceIte,JF,Dm.ao,JA,JB,JE,JC,true_or,or_true,true_and,and_true,decide_true,decide_false,false_or,or_false,false_and,and_false]
theorem kq(lo:Int):ups lo 0=[]:=rfl
theorem kr(lo:Int)(n:Nat):ups lo (n+1)=Dat.int lo::ups (lo+1) n:=by
 unfold ups;rw[Lo,Ds,Kr]
 congr 1
 ·simp
 ·apply La;intro i _;simp only[Function.comp,Dat.int.injEq]
  lia
noncomputable abbrev Z30:Int:=1000000000000000000000000000000
noncomputable def draw(cell k:Int):Int:=((mixed cell (8*k+0)*2147483647+mixed cell (8*k+1))*2147483647+mixed cell (8*k+2))*2147483647+mixed cell (8*k+3)
noncomputable def nums(cell:Int):Nat->Int->Int->List Int
 |0,_,_=>[]
 |n+1,k,left=>if 0<left then (left % Z30)::nums cell n (k+1) (left / Z30) else (draw cell k % Z30)::nums cell n (k+1) left
theorem pS(cell:Int):∀n k left,(nums cell n k left).length=n
 |0,_,_=>rfl
 |n+1,k,left=>by unfold nums;split<;>simp[pS cell n]
theorem Ei:bits Z30=100:=by decide
theorem GS(cell many left k:Int)(kM:Dat) :
  whD (tV (e2 gLt (e2 aS (eV 7) (eC (.int 30))) (e2 aN (e1 aH (eV 2)) (eC (.int 8))))) i_ 100
   [.sh (.int cell),.sh (.int many),.sh (.int Z30),.ow kM,.sh (.int left),.sh (.int k),.sh (.int 0),.sh (.int 0)] =
  some (.nx [.sh (.int cell),.sh (.int many),.sh (.int Z30),.ow kM,.sh (.int left),.sh (.int k),.sh (.int (draw cell k)),.sh (.int 4)]):=by
 have bt:=Ei;have one:∀(n:Nat) (num:Int) (t:Int),t=0\/t=1\/t=2\/t=3 ->
   whD (tV (e2 gLt (e2 aS (eV 7) (eC (.int 30))) (e2 aN (e1 aH (eV 2)) (eC (.int 8))))) i_ (n+1)
    [.sh (.int cell),.sh (.int many),.sh (.int Z30),.ow kM,.sh (.int left),.sh (.int k),.sh (.int num),.sh (.int t)] =
   whD (tV (e2 gLt (e2 aS (eV 7) (eC (.int 30))) (e2 aN (e1 aH (eV 2)) (eC (.int 8))))) i_ n
    [.sh (.int cell),.sh (.int many),.sh (.int Z30),.ow kM,.sh (.int left),.sh (.int k),.sh (.int (num*2147483647+mixed cell (8*k+t))),.sh (.int (t+1))]:=by
  intro n num t ht;rw[whD];have lt:(t*30<100+8)=True:=by simp only[eq_iff_iff,iff_true];lia
  have test:tV (e2 gLt (e2 aS (eV 7) (eC (.int 30))) (e2 aN (e1 aH (eV 2)) (eC (.int 8)))) [.sh (.int cell),.sh (.int many),.sh (.int Z30),.ow kM,.sh (.int left),.sh (.int k),.sh (.int num),.sh (.int t)] =
    some (true,[.sh (.int cell),.sh (.int many),.sh (.int Z30),.ow kM,.sh (.int left),.sh (.int k),.sh (.int num),.sh (.int t)]):=by
   simp(config:={ decide:=true }) only[Dm.fn,Dm.ai,Dm.sA,Dm.sR,Dm.sE,Dm.sU,Dm.sIf,Dm.sNx,Dm.bA,Dm.bB,Dm.aY,Dm.e1,Dm.e2,Dm.eB,Dm.eAs,Dm.eC,Dm.eV,Dm.a_,Dm.aW,Dm.eF,Dm.eIf,Dm.bq,Dm.bC,Dm.tV,Dm.aR,Dm.bz,Dm.tOr,Dm.az,Dm.pk,Dm.tk,Dm.pks,Dm.tks,RV.ay,RV.dat,Dm.aG,Dm.aN,Dm.aZ,Dm.aS,Dm.aX,Dm.aE,Dm.br,Dm.gLt,Dm.gLe,Dm.gGt,Dm.bu,Dm.aH,Dm.aU,Dm.aL,Dm.aQ,Dm.aO,Dm.aT,Dm.bD,Dm.isI,Dm.isB,Dm.isL,Dm.isT,Dm.vB,Dm.vI,Ds,JG,gp,Ju,Jt,Jy,gc,Dk,gV,Jx,Jv,Jw,JI,if_true,if_false,JD,Dm.iR1,Dm.iR2,Dm.iS,Dm.bN,Dm.bT,Dm.sets,reduceIte,JF,Dm.ao,JA,JB,JE,JC,true_or,or_true,true_and,and_true,decide_true,decide_false,false_or,or_false,false_and,and_false];rw[bt];simp only[lt,decide_true]
  rw[test];have body:i_ [.sh (.int cell),.sh (.int many),.sh (.int Z30),.ow kM,.sh (.int left),.sh (.int k),.sh (.int num),.sh (.int t)] =
    some (.nx [.sh (.int cell),.sh (.int many),.sh (.int Z30),.ow kM,.sh (.int left),.sh (.int k),.sh (.int (num*2147483647+mixed cell (8*k+t))),.sh (.int (t+1))]):=by
   unfold i_;simp(config:={ decide:=true }) only[Dm.fn,Dm.ai,Dm.sA,Dm.sR,Dm.sE,Dm.sU,Dm.sIf,Dm.sNx,Dm.bA,Dm.bB,Dm.aY,Dm.e1,Dm.e2,Dm.eB,Dm.eAs,Dm.eC,Dm.eV,Dm.a_,Dm.aW,Dm.eF,Dm.eIf,Dm.bq,Dm.bC,Dm.tV,Dm.aR,Dm.bz,Dm.tOr,Dm.az,Dm.pk,Dm.tk,Dm.pks,Dm.tks,RV.ay,RV.dat,Dm.aG,Dm.aN,Dm.aZ,Dm.aS,Dm.aX,Dm.aE,Dm.br,Dm.gLt,Dm.gLe,Dm.gGt,Dm.bu,Dm.aH,Dm.aU,Dm.aL,Dm.aQ,Dm.aO,Dm.aT,Dm.bD,Dm.isI,Dm.isB,Dm.isL,Dm.isT,Dm.vB,Dm.vI,Ds,JG,gp,Ju,Jt,Jy,gc,Dk,gV,Jx,Jv,Jw,JI,if_true,if_false,JD,Dm.iR1,Dm.iR2,Dm.iS,Dm.bN,Dm.bT,Dm.sets,reduceIte,JF,Dm.ao,JA,JB,JE,JC,true_or,or_true,true_and,and_true,decide_true,decide_false,false_or,or_false,false_and,and_false];rw[xQ];simp(config:={ decide:=true }) only[Dm.fn,Dm.ai,Dm.sA,Dm.sR,Dm.sE,Dm.sU,Dm.sIf,Dm.sNx,Dm.bA,Dm.bB,Dm.aY,Dm.e1,Dm.e2,Dm.eB,Dm.eAs,Dm.eC,Dm.eV,Dm.a_,Dm.aW,Dm.eF,Dm.eIf,Dm.bq,Dm.bC,Dm.tV,Dm.aR,Dm.bz,Dm.tOr,Dm.az,Dm.pk,Dm.tk,Dm.pks,Dm.tks,RV.ay,RV.dat,Dm.aG,Dm.aN,Dm.aZ,Dm.aS,Dm.aX,Dm.aE,Dm.br,Dm.gLt,Dm.gLe,Dm.gGt,Dm.bu,Dm.aH,Dm.aU,Dm.aL,Dm.aQ,Dm.aO,Dm.aT,Dm.bD,Dm.isI,Dm.isB,Dm.isL,Dm.isT,Dm.vB,Dm.vI,Ds,JG,gp,Ju,Jt,Jy,gc,Dk,gV,Jx,Jv,Jw,JI,if_true,if_false,JD,Dm.iR1,Dm.iR2,Dm.iS,Dm.bN,Dm.bT,Dm.sets,reduceIte,JF,Dm.ao,JA,JB,JE,JC,true_or,or_true,true_and,and_true,decide_true,decide_false,false_or,or_false,false_and,and_false]
  dsimp only;rw[body]
 rw[one 99 0 0 (by lia),one 98 _ (0+1) (by lia),one 97 _ (0+1+1) (by lia),one 96 _ (0+1+1+1) (by lia)];rw[whD];have test:∀num,tV (e2 gLt (e2 aS (eV 7) (eC (.int 30))) (e2 aN (e1 aH (eV 2)) (eC (.int 8)))) [.sh (.int cell),.sh (.int many),.sh (.int Z30),.ow kM,.sh (.int left),.sh (.int k),.sh (.int num),.sh (.int (0+1+1+1+1))] =
    some (false,[.sh (.int cell),.sh (.int many),.sh (.int Z30),.ow kM,.sh (.int left),.sh (.int k),.sh (.int num),.sh (.int (0+1+1+1+1))]):=by
  intro num;simp(config:={ decide:=true }) only[Dm.fn,Dm.ai,Dm.sA,Dm.sR,Dm.sE,Dm.sU,Dm.sIf,Dm.sNx,Dm.bA,Dm.bB,Dm.aY,Dm.e1,Dm.e2,Dm.eB,Dm.eAs,Dm.eC,Dm.eV,Dm.a_,Dm.aW,Dm.eF,Dm.eIf,Dm.bq,Dm.bC,Dm.tV,Dm.aR,Dm.bz,Dm.tOr,Dm.az,Dm.pk,Dm.tk,Dm.pks,Dm.tks,RV.ay,RV.dat,Dm.aG,Dm.aN,Dm.aZ,Dm.aS,Dm.aX,Dm.aE,Dm.br,Dm.gLt,Dm.gLe,Dm.gGt,Dm.bu,Dm.aH,Dm.aU,Dm.aL,Dm.aQ,Dm.aO,Dm.aT,Dm.bD,Dm.isI,Dm.isB,Dm.isL,Dm.isT,Dm.vB,Dm.vI,Ds,JG,gp,Ju,Jt,Jy,gc,Dk,gV,Jx,Jv,Jw,JI,if_true,if_false,JD,Dm.iR1,Dm.iR2,Dm.iS,Dm.bN,Dm.bT,Dm.sets,reduceIte,JF,Dm.ao,JA,JB,JE,JC,true_or,or_true,true_and,and_true,decide_true,decide_false,false_or,or_false,false_and,and_false]
 rw[test];simp only[draw,Int.zero_mul,Int.zero_add];rfl
theorem A5(cell many left k:Int)(kM:List Dat)(c5 c6 c7:Cell)(hl:kM.length<SZ) :
  ∃c6' c7',nS [.sh (.int cell),.sh (.int many),.sh (.int Z30),.ow (.lst kM),.sh (.int left),.sh (.int k),c6,c7] =
   some (.nx [.sh (.int cell),.sh (.int many),.sh (.int Z30),.ow (.lst (kM++[.int (if 0<left then left % Z30 else draw cell k % Z30)])),.sh (.int (if 0<left then left / Z30 else left)),.sh (.int k),c6',c7']):=by
 unfold nS;by_cases h:0<left
 ·refine⟨.sh (.int left),c7,?_⟩;simp(config:={ decide:=true }) only[Dm.fn,Dm.ai,Dm.sA,Dm.sR,Dm.sE,Dm.sU,Dm.sIf,Dm.sNx,Dm.bA,Dm.bB,Dm.aY,Dm.e1,Dm.e2,Dm.eB,Dm.eAs,Dm.eC,Dm.eV,Dm.a_,Dm.aW,Dm.eF,Dm.eIf,Dm.bq,Dm.bC,Dm.tV,Dm.aR,Dm.bz,Dm.tOr,Dm.az,Dm.pk,Dm.tk,Dm.pks,Dm.tks,RV.ay,RV.dat,Dm.aG,Dm.aN,Dm.aZ,Dm.aS,Dm.aX,Dm.aE,Dm.br,Dm.gLt,Dm.gLe,Dm.gGt,Dm.bu,Dm.aH,Dm.aU,Dm.aL,Dm.aQ,Dm.aO,Dm.aT,Dm.bD,Dm.isI,Dm.isB,Dm.isL,Dm.isT,Dm.vB,Dm.vI,Ds,JG,gp,Ju,Jt,Jy,gc,Dk,gV,Jx,Jv,Jw,JI,if_true,if_false,JD,Dm.iR1,Dm.iR2,Dm.iS,Dm.bN,Dm.bT,Dm.sets,reduceIte,JF,Dm.ao,JA,JB,JE,JC,true_or,or_true,true_and,and_true,decide_true,decide_false,false_or,or_false,false_and,and_false];simp only[h,if_true,decide_true];simp(config:={ decide:=true }) only[Dm.fn,Dm.ai,Dm.sA,Dm.sR,Dm.sE,Dm.sU,Dm.sIf,Dm.sNx,Dm.bA,Dm.bB,Dm.aY,Dm.e1,Dm.e2,Dm.eB,Dm.eAs,Dm.eC,Dm.eV,Dm.a_,Dm.aW,Dm.eF,Dm.eIf,Dm.bq,Dm.bC,Dm.tV,Dm.aR,Dm.bz,Dm.tOr,Dm.az,Dm.pk,Dm.tk,Dm.pks,Dm.tks,RV.ay,RV.dat,Dm.aG,Dm.aN,Dm.aZ,Dm.aS,Dm.aX,Dm.aE,Dm.br,Dm.gLt,Dm.gLe,Dm.gGt,Dm.bu,Dm.aH,Dm.aU,Dm.aL,Dm.aQ,Dm.aO,Dm.aT,Dm.bD,Dm.isI,Dm.isB,Dm.isL,Dm.isT,Dm.vB,Dm.vI,Ds,JG,gp,Ju,Jt,Jy,gc,Dk,gV,Jx,Jv,Jw,JI,if_true,if_false,JD,Dm.iR1,Dm.iR2,Dm.iS,Dm.bN,Dm.bT,Dm.sets,reduceIte,JF,Dm.ao,JA,JB,JE,JC,true_or,or_true,true_and,and_true,decide_true,decide_false,false_or,or_false,false_and,and_false];simp only[hl,if_true]
 ·refine⟨.sh (.int (draw cell k)),.sh (.int 4),?_⟩;simp(config:={ decide:=true }) only[Dm.fn,Dm.ai,Dm.sA,Dm.sR,Dm.sE,Dm.sU,Dm.sIf,Dm.sNx,Dm.bA,Dm.bB,Dm.aY,Dm.e1,Dm.e2,Dm.eB,Dm.eAs,Dm.eC,Dm.eV,Dm.a_,Dm.aW,Dm.eF,Dm.eIf,Dm.bq,Dm.bC,Dm.tV,Dm.aR,Dm.bz,Dm.tOr,Dm.az,Dm.pk,Dm.tk,Dm.pks,Dm.tks,RV.ay,RV.dat,Dm.aG,Dm.aN,Dm.aZ,Dm.aS,Dm.aX,Dm.aE,Dm.br,Dm.gLt,Dm.gLe,Dm.gGt,Dm.bu,Dm.aH,Dm.aU,Dm.aL,Dm.aQ,Dm.aO,Dm.aT,Dm.bD,Dm.isI,Dm.isB,Dm.isL,Dm.isT,Dm.vB,Dm.vI,Ds,JG,gp,Ju,Jt,Jy,gc,Dk,gV,Jx,Jv,Jw,JI,if_true,if_false,JD,Dm.iR1,Dm.iR2,Dm.iS,Dm.bN,Dm.bT,Dm.sets,reduceIte,JF,Dm.ao,JA,JB,JE,JC,true_or,or_true,true_and,and_true,decide_true,decide_false,false_or,or_false,false_and,and_false];simp only[h,if_false,decide_false];simp(config:={ decide:=true }) only[Dm.fn,Dm.ai,Dm.sA,Dm.sR,Dm.sE,Dm.sU,Dm.sIf,Dm.sNx,Dm.bA,Dm.bB,Dm.aY,Dm.e1,Dm.e2,Dm.eB,Dm.eAs,Dm.eC,Dm.eV,Dm.a_,Dm.aW,Dm.eF,Dm.eIf,Dm.bq,Dm.bC,Dm.tV,Dm.aR,Dm.bz,Dm.tOr,Dm.az,Dm.pk,Dm.tk,Dm.pks,Dm.tks,RV.ay,RV.dat,Dm.aG,Dm.aN,Dm.aZ,Dm.aS,Dm.aX,Dm.aE,Dm.br,Dm.gLt,Dm.gLe,Dm.gGt,Dm.bu,Dm.aH,Dm.aU,Dm.aL,Dm.aQ,Dm.aO,Dm.aT,Dm.bD,Dm.isI,Dm.isB,Dm.isL,Dm.isT,Dm.vB,Dm.vI,Ds,JG,gp,Ju,Jt,Jy,gc,Dk,gV,Jx,Jv,Jw,JI,if_true,if_false,JD,Dm.iR1,Dm.iR2,Dm.iS,Dm.bN,Dm.bT,Dm.sets,reduceIte,JF,Dm.ao,JA,JB,JE,JC,true_or,or_true,true_and,and_true,decide_true,decide_false,false_or,or_false,false_and,and_false];rw[GS];simp(config:={ decide:=true }) only[Dm.fn,Dm.ai,Dm.sA,Dm.sR,Dm.sE,Dm.sU,Dm.sIf,Dm.sNx,Dm.bA,Dm.bB,Dm.aY,Dm.e1,Dm.e2,Dm.eB,Dm.eAs,Dm.eC,Dm.eV,Dm.a_,Dm.aW,Dm.eF,Dm.eIf,Dm.bq,Dm.bC,Dm.tV,Dm.aR,Dm.bz,Dm.tOr,Dm.az,Dm.pk,Dm.tk,Dm.pks,Dm.tks,RV.ay,RV.dat,Dm.aG,Dm.aN,Dm.aZ,Dm.aS,Dm.aX,Dm.aE,Dm.br,Dm.gLt,Dm.gLe,Dm.gGt,Dm.bu,Dm.aH,Dm.aU,Dm.aL,Dm.aQ,Dm.aO,Dm.aT,Dm.bD,Dm.isI,Dm.isB,Dm.isL,Dm.isT,Dm.vB,Dm.vI,Ds,JG,gp,Ju,Jt,Jy,gc,Dk,gV,Jx,Jv,Jw,JI,if_true,if_false,JD,Dm.iR1,Dm.iR2,Dm.iS,Dm.bN,Dm.bT,Dm.sets,reduceIte,JF,Dm.ao,JA,JB,JE,JC,true_or,or_true,true_and,and_true,decide_true,decide_false,false_or,or_false,false_and,and_false];simp only[hl,if_true]
theorem t7(cell many:Int):∀(n:Nat) (k left:Int) (kM:List Dat) (c5 c6 c7:Cell),kM.length+n<=SZ ->
  ∃left' c5' c6' c7',cy (bN 5) nS (ups k n) [.sh (.int cell),.sh (.int many),.sh (.int Z30),.ow (.lst kM),.sh (.int left),c5,c6,c7] =
   some (.nx [.sh (.int cell),.sh (.int many),.sh (.int Z30),.ow (.lst (kM++(nums cell n k left).map Dat.int)),.sh (.int left'),c5',c6',c7'])
 |0,k,left,kM,c5,c6,c7,h=>⟨left,c5,c6,c7,by rw[kq,cy];simp[nums]⟩
 |n+1,k,left,kM,c5,c6,c7,h=>by
  rw[kr,cy];have hb:bN 5 (.int k) [.sh (.int cell),.sh (.int many),.sh (.int Z30),.ow (.lst kM),.sh (.int left),c5,c6,c7]=some [.sh (.int cell),.sh (.int many),.sh (.int Z30),.ow (.lst kM),.sh (.int left),.sh (.int k),c6,c7]:=rfl;rw[hb];dsimp only;obtain⟨d6,d7,e⟩:=A5 cell many left k kM c5 c6 c7 (by lia);rw[e];dsimp only;obtain⟨l',a5,a6,a7,e2⟩:=t7 cell many n (k+1) (if 0<left then left / Z30 else left) (kM++[.int (if 0<left then left % Z30 else draw cell k % Z30)]) (.sh (.int k)) d6 d7 (by simp;lia);refine⟨l',a5,a6,a7,?_⟩;rw[e2];have:kM++(nums cell (n+1) k left).map Dat.int=kM++[.int (if 0<left then left % Z30 else draw cell k % Z30)]++(nums cell n (k+1) (if 0<left then left / Z30 else left)).map Dat.int:=by
   conv=>lhs;unfold nums
   by_cases h0:0<left
   ·simp[h0]
   ·simp[h0]
  rw[this]
noncomputable def numsOf(cell:Int)(n:Nat):List Int:=nums cell n 0 (cell-1000000000000000000)
theorem rJ(cell:Int)(n:Nat)(hn:n<=1000):tW [.int cell,.int n,.int Z30]=some (.new (.lst ((numsOf cell n).map Dat.int))):=by
 unfold tW;obtain⟨l',a5,a6,a7,e⟩:=t7 cell n n 0 (cell-1000000000000000000) [] .un .un .un (by simp[SZ];lia);have p18:(10:Int) ^ (18:Int).toNat=1000000000000000000:=by decide
 have hb:((n:Int)<=BIG/\-BIG<=(n:Int))=True:=by simp only[eq_iff_iff,iff_true];unfold BIG;lia
 have hs:(0<=SZ)=True:=by simp
 simp(config:={ decide:=true }) only[Dm.fn,Dm.ai,Dm.sA,Dm.sR,Dm.sE,Dm.sU,Dm.sIf,Dm.sNx,Dm.bA,Dm.bB,Dm.aY,Dm.e1,Dm.e2,Dm.eB,Dm.eAs,Dm.eC,Dm.eV,Dm.a_,Dm.aW,Dm.eF,Dm.eIf,Dm.bq,Dm.bC,Dm.tV,Dm.aR,Dm.bz,Dm.tOr,Dm.az,Dm.pk,Dm.tk,Dm.pks,Dm.tks,RV.ay,RV.dat,Dm.aG,Dm.aN,Dm.aZ,Dm.aS,Dm.aX,Dm.aE,Dm.br,Dm.gLt,Dm.gLe,Dm.gGt,Dm.bu,Dm.aH,Dm.aU,Dm.aL,Dm.aQ,Dm.aO,Dm.aT,Dm.bD,Dm.isI,Dm.isB,Dm.isL,Dm.isT,Dm.vB,Dm.vI,Ds,JG,gp,Ju,Jt,Jy,gc,Dk,gV,Jx,Jv,Jw,JI,if_true,if_false,JD,Dm.iR1,Dm.iR2,Dm.iS,Dm.bN,Dm.bT,Dm.sets,reduceIte,JF,Dm.ao,JA,JB,JE,JC,true_or,or_true,true_and,and_true,decide_true,decide_false,false_or,or_false,false_and,and_false];simp only[p18,hb,hs,if_true,Ky];rw[Jt]at e;unfold numsOf;rw[e];simp(config:={ decide:=true }) only[Dm.fn,Dm.ai,Dm.sA,Dm.sR,Dm.sE,Dm.sU,Dm.sIf,Dm.sNx,Dm.bA,Dm.bB,Dm.aY,Dm.e1,Dm.e2,Dm.eB,Dm.eAs,Dm.eC,Dm.eV,Dm.a_,Dm.aW,Dm.eF,Dm.eIf,Dm.bq,Dm.bC,Dm.tV,Dm.aR,Dm.bz,Dm.tOr,Dm.az,Dm.pk,Dm.tk,Dm.pks,Dm.tks,RV.ay,RV.dat,Dm.aG,Dm.aN,Dm.aZ,Dm.aS,Dm.aX,Dm.aE,Dm.br,Dm.gLt,Dm.gLe,Dm.gGt,Dm.bu,Dm.aH,Dm.aU,Dm.aL,Dm.aQ,Dm.aO,Dm.aT,Dm.bD,Dm.isI,Dm.isB,Dm.isL,Dm.isT,Dm.vB,Dm.vI,Ds,JG,gp,Ju,Jt,Jy,gc,Dk,gV,Jx,Jv,Jw,JI,if_true,if_false,JD,Dm.iR1,Dm.iR2,Dm.iS,Dm.bN,Dm.bT,Dm.sets,reduceIte,JF,Dm.ao,JA,JB,JE,JC,true_or,or_true,true_and,and_true,decide_true,decide_false,false_or,or_false,false_and,and_false]
structure Tie where
 m:Int
 a:Int
 b:Int
noncomputable def bw(t:Tie):Dat:=.tup [.int t.m,.int t.a,.int t.b]
noncomputable def av(r:List Tie):Dat:=.lst (r.map bw)
theorem eq_int(i j:Int):gEq (.int i) (.int j)=vB (decide (i=j)):=by
 have:(i == j)=decide (i=j):=by by_cases h:i=j<;>simp[h]
 show vB (i == j)=_;rw[this]
theorem ne_int(i j:Int):gNe (.int i) (.int j)=vB (!decide (i=j)):=by
 have:(i == j)=decide (i=j):=by by_cases h:i=j<;>simp[h]
 show vB (!(i == j))=_;rw[this]
theorem b8(x n:Int)(h:1<=n):0<=x % n/\x % n<n:=⟨Int.emod_nonneg x (by lia),Int.emod_lt_of_pos x (by lia)⟩
theorem GU(n:Int)(hn:1<=n)(hn2:n<=10)(kind one other:Int):∃a b,tX [.int n,.int kind,.int one,.int other]=some (.val (.tup [.int a,.int b]))/\0<=a/\a<n/\0<=b/\b<n:=by
 have h0:(0<n)=True:=by simp only[eq_iff_iff,iff_true];lia
 have z2:(2<=SZ)=True:=by simp[SZ]
 have m1:∀x:Int,0<=x % n/\x % n<n:=fun x=>b8 x n hn;unfold tX;by_cases k0:kind=0
 ·refine⟨one % n,other % n,?_,(m1 _).1,(m1 _).2,(m1 _).1,(m1 _).2⟩;subst k0;simp(config:={ decide:=true }) only[h0,z2,eq_int,Dm.fn,Dm.ai,Dm.sA,Dm.sR,Dm.sE,Dm.sU,Dm.sIf,Dm.sNx,Dm.bA,Dm.bB,Dm.aY,Dm.e1,Dm.e2,Dm.eB,Dm.eAs,Dm.eC,Dm.eV,Dm.a_,Dm.aW,Dm.eF,Dm.eIf,Dm.bq,Dm.bC,Dm.tV,Dm.aR,Dm.bz,Dm.tOr,Dm.az,Dm.pk,Dm.tk,Dm.pks,Dm.tks,RV.ay,RV.dat,Dm.aG,Dm.aN,Dm.aZ,Dm.aS,Dm.aX,Dm.aE,Dm.br,Dm.gLt,Dm.gLe,Dm.gGt,Dm.bu,Dm.aH,Dm.aU,Dm.aL,Dm.aQ,Dm.aO,Dm.aT,Dm.bD,Dm.isI,Dm.isB,Dm.isL,Dm.isT,Dm.vB,Dm.vI,Ds,JG,gp,Ju,Jt,Jy,gc,Dk,gV,Jx,Jv,Jw,JI,if_true,if_false,JD,Dm.iR1,Dm.iR2,Dm.iS,Dm.bN,Dm.bT,Dm.sets,reduceIte,JF,Dm.ao,JA,JB,JE,JC,true_or,or_true,true_and,and_true,decide_true,decide_false,false_or,or_false,false_and,and_false]
 ·have e0:(kind=0)=False:=by simp[k0]
  by_cases k1:kind=1
  ·subst k1;have p3:(0<if 3<n then 3 else n)=True:=by simp only[eq_iff_iff,iff_true];split<;>lia
   have p2:(0<if 2<n then 2 else n)=True:=by simp only[eq_iff_iff,iff_true];split<;>lia
   have b3:=b8 one (if 3<n then 3 else n) (by split<;>lia);have b2:=b8 other (if 2<n then 2 else n) (by split<;>lia);refine⟨one % (if 3<n then 3 else n),other % (if 2<n then 2 else n),?_,b3.1,?_,b2.1,?_⟩
   ·simp(config:={ decide:=true }) only[h0,z2,eq_int,p3,p2,Dm.fn,Dm.ai,Dm.sA,Dm.sR,Dm.sE,Dm.sU,Dm.sIf,Dm.sNx,Dm.bA,Dm.bB,Dm.aY,Dm.e1,Dm.e2,Dm.eB,Dm.eAs,Dm.eC,Dm.eV,Dm.a_,Dm.aW,Dm.eF,Dm.eIf,Dm.bq,Dm.bC,Dm.tV,Dm.aR,Dm.bz,Dm.tOr,Dm.az,Dm.pk,Dm.tk,Dm.pks,Dm.tks,RV.ay,RV.dat,Dm.aG,Dm.aN,Dm.aZ,Dm.aS,Dm.aX,Dm.aE,Dm.br,Dm.gLt,Dm.gLe,Dm.gGt,Dm.bu,Dm.aH,Dm.aU,Dm.aL,Dm.aQ,Dm.aO,Dm.aT,Dm.bD,Dm.isI,Dm.isB,Dm.isL,Dm.isT,Dm.vB,Dm.vI,Ds,JG,gp,Ju,Jt,Jy,gc,Dk,gV,Jx,Jv,Jw,JI,if_true,if_false,JD,Dm.iR1,Dm.iR2,Dm.iS,Dm.bN,Dm.bT,Dm.sets,reduceIte,JF,Dm.ao,JA,JB,JE,JC,true_or,or_true,true_and,and_true,decide_true,decide_false,false_or,or_false,false_and,and_false]
   ·have:=b3.2;split at this<;>lia
   ·have:=b2.2;split at this<;>lia
  ·have e1:(kind=1)=False:=by simp[k1]
   by_cases k2:kind=2
   ·subst k2;refine⟨one % n,(one % n+1+other % 5 / 4) % n,?_,(m1 _).1,(m1 _).2,(m1 _).1,(m1 _).2⟩;have c:(0<(4:Int)/\(4:Int)<dW)=True:=by simp[dW]
    simp(config:={ decide:=true }) only[h0,z2,eq_int,c,Dm.fn,Dm.ai,Dm.sA,Dm.sR,Dm.sE,Dm.sU,Dm.sIf,Dm.sNx,Dm.bA,Dm.bB,Dm.aY,Dm.e1,Dm.e2,Dm.eB,Dm.eAs,Dm.eC,Dm.eV,Dm.a_,Dm.aW,Dm.eF,Dm.eIf,Dm.bq,Dm.bC,Dm.tV,Dm.aR,Dm.bz,Dm.tOr,Dm.az,Dm.pk,Dm.tk,Dm.pks,Dm.tks,RV.ay,RV.dat,Dm.aG,Dm.aN,Dm.aZ,Dm.aS,Dm.aX,Dm.aE,Dm.br,Dm.gLt,Dm.gLe,Dm.gGt,Dm.bu,Dm.aH,Dm.aU,Dm.aL,Dm.aQ,Dm.aO,Dm.aT,Dm.bD,Dm.isI,Dm.isB,Dm.isL,Dm.isT,Dm.vB,Dm.vI,Ds,JG,gp,Ju,Jt,Jy,gc,Dk,gV,Jx,Jv,Jw,JI,if_true,if_false,JD,Dm.iR1,Dm.iR2,Dm.iS,Dm.bN,Dm.bT,Dm.sets,reduceIte,JF,Dm.ao,JA,JB,JE,JC,true_or,or_true,true_and,and_true,decide_true,decide_false,false_or,or_false,false_and,and_false]
   ·have e2:(kind=2)=False:=by simp[k2]
    refine⟨one % n,(one % n+2*(other % n)) % n,?_,(m1 _).1,(m1 _).2,(m1 _).1,(m1 _).2⟩;simp(config:={ decide:=true }) only[h0,z2,eq_int,e0,e1,e2,Dm.fn,Dm.ai,Dm.sA,Dm.sR,Dm.sE,Dm.sU,Dm.sIf,Dm.sNx,Dm.bA,Dm.bB,Dm.aY,Dm.e1,Dm.e2,Dm.eB,Dm.eAs,Dm.eC,Dm.eV,Dm.a_,Dm.aW,Dm.eF,Dm.eIf,Dm.bq,Dm.bC,Dm.tV,Dm.aR,Dm.bz,Dm.tOr,Dm.az,Dm.pk,Dm.tk,Dm.pks,Dm.tks,RV.ay,RV.dat,Dm.aG,Dm.aN,Dm.aZ,Dm.aS,Dm.aX,Dm.aE,Dm.br,Dm.gLt,Dm.gLe,Dm.gGt,Dm.bu,Dm.aH,Dm.aU,Dm.aL,Dm.aQ,Dm.aO,Dm.aT,Dm.bD,Dm.isI,Dm.isB,Dm.isL,Dm.isT,Dm.vB,Dm.vI,Ds,JG,gp,Ju,Jt,Jy,gc,Dk,gV,Jx,Jv,Jw,JI,if_true,if_false,JD,Dm.iR1,Dm.iR2,Dm.iS,Dm.bN,Dm.bT,Dm.sets,reduceIte,JF,Dm.ao,JA,JB,JE,JC,true_or,or_true,true_and,and_true,decide_true,decide_false,false_or,or_false,false_and,and_false]
noncomputable def at'(ns:List Int)(i:Int):Int:=ns.getD i.toNat 0
theorem jJ(ns:List Int)(i:Int)(h0:0<=i)(h1:i<ns.length):atI (ns.map Dat.int) i=some (.int (at' ns i)):=by
 unfold atI ixN at';rw[if_pos h0,if_pos (by simpa using h1)];have hi:i.toNat<ns.length:=by lia
 show (ns.map Dat.int)[i.toNat]?=_;rw[JT,JX hi,Kg,JX hi];rfl
theorem fq(ns:List Int)(i:Int)(h0:0<=i)(h1:i<ns.length):gIx (.lst (ns.map Dat.int)) (.int i)=some (.val (.int (at' ns i))):=by show (atI (ns.map Dat.int) i).map RV.val=_;rw[jJ ns i h0 h1];rfl
def Good(n:Int):Int->List Tie->Prop
 |_,[]=>True
 |lo,t::r=>lo<=t.m/\0<=t.a/\t.a<=t.b/\t.b<n/\Good n (t.m+1) r
noncomputable abbrev Z28:Int:=10000000000000000000000000000
theorem A6(ns:List Int)(n many wide bU most k:Int)(kM:List Tie)(c8 c9:Cell)(hn:1<=n)(hn2:n<=10)(hw:1<=wide)(hw2:wide<=Z28)(hk:0<=k)(hk2:6+3*k<ns.length)(hl:kM.length<1000) :
  ∃(t:Tie) (iz:Int) (c8' c9':Cell),kh [.sh (.lst (ns.map Dat.int)),.sh (.int most),.sh (.int n),.sh (.int many),.sh (.int wide),.sh (.int bU),.ow (av kM),.sh (.int k),c8,c9] =
   some (.nx [.sh (.lst (ns.map Dat.int)),.sh (.int most),.sh (.int n),.sh (.int many),.sh (.int wide),.sh (.int iz),.ow (av (kM++[t])),.sh (.int k),c8',c9']) /\
   t.m=bU/\0<=t.a/\t.a<=t.b/\t.b<n/\bU+1<=iz/\iz<=bU+Z28:=by
 obtain⟨a,b,e,a0,a1,b0,b1⟩:=GU n hn hn2 (at' ns 3 % 4) (at' ns (4+3*k)) (at' ns (5+3*k));have i3:=fq ns 3 (by decide) (by lia);have i4:=fq ns (4+3*k) (by lia) (by lia);have i5:=fq ns (5+3*k) (by lia) (by lia);have i6:=fq ns (6+3*k) (by lia) (by lia);have mw:=b8 (at' ns (6+3*k)) wide hw;have w0:(0<wide)=True:=by simp only[eq_iff_iff,iff_true];lia
 have z3:(3<=SZ)=True:=by simp[SZ]
 have za:((kM.map bw).length<SZ)=True:=by simp only[eq_iff_iff,iff_true,JM];unfold SZ;lia
 refine⟨⟨bU,if b<a then b else a,if b>a then b else a⟩,bU+1+at' ns (6+3*k) % wide,.sh (.int a),.sh (.int b),?_,rfl,?_,?_,?_,by lia,by lia⟩
 ·unfold kh av;simp(config:={ decide:=true }) only[i3,i4,i5,i6,e,w0,z3,za,Dm.fn,Dm.ai,Dm.sA,Dm.sR,Dm.sE,Dm.sU,Dm.sIf,Dm.sNx,Dm.bA,Dm.bB,Dm.aY,Dm.e1,Dm.e2,Dm.eB,Dm.eAs,Dm.eC,Dm.eV,Dm.a_,Dm.aW,Dm.eF,Dm.eIf,Dm.bq,Dm.bC,Dm.tV,Dm.aR,Dm.bz,Dm.tOr,Dm.az,Dm.pk,Dm.tk,Dm.pks,Dm.tks,RV.ay,RV.dat,Dm.aG,Dm.aN,Dm.aZ,Dm.aS,Dm.aX,Dm.aE,Dm.br,Dm.gLt,Dm.gLe,Dm.gGt,Dm.bu,Dm.aH,Dm.aU,Dm.aL,Dm.aQ,Dm.aO,Dm.aT,Dm.bD,Dm.isI,Dm.isB,Dm.isL,Dm.isT,Dm.vB,Dm.vI,Ds,JG,gp,Ju,Jt,Jy,gc,Dk,gV,Jx,Jv,Jw,JI,if_true,if_false,JD,Dm.iR1,Dm.iR2,Dm.iS,Dm.bN,Dm.bT,Dm.sets,reduceIte,JF,Dm.ao,JA,JB,JE,JC,true_or,or_true,true_and,and_true,decide_true,decide_false,false_or,or_false,false_and,and_false];simp[bw]
 ·dsimp only;split<;>lia
 ·dsimp only;split<;>split<;>lia
 ·dsimp only;split<;>lia
theorem t8(ns:List Int)(n many wide most:Int)(hn:1<=n)(hn2:n<=10)(hw:1<=wide)(hw2:wide<=Z28):∀(NU:Nat) (k bU:Int) (kM:List Tie) (c7 c8 c9:Cell),0<=k->3+3*(k+NU)<ns.length->kM.length+NU<1000 ->
  ∃(r:List Tie) (iz:Int) (c7' c8' c9':Cell),cy (bN 7) kh (ups k NU) [.sh (.lst (ns.map Dat.int)),.sh (.int most),.sh (.int n),.sh (.int many),.sh (.int wide),.sh (.int bU),.ow (av kM),c7,c8,c9] =
   some (.nx [.sh (.lst (ns.map Dat.int)),.sh (.int most),.sh (.int n),.sh (.int many),.sh (.int wide),.sh (.int iz),.ow (av (kM++r)),c7',c8',c9'])/\r.length=NU/\Good n bU r/\∀t∈r,t.m<=bU+NU*Z28
 |0,k,bU,kM,c7,c8,c9,hk,hl,ha=>⟨[],bU,c7,c8,c9,by rw[kq,cy,Ke],rfl,trivial,fun t ht=>by cases ht⟩
 |NU+1,k,bU,kM,c7,c8,c9,hk,hl,ha=>by
  rw[kr,cy];have hb:bN 7 (.int k) [.sh (.lst (ns.map Dat.int)),.sh (.int most),.sh (.int n),.sh (.int many),.sh (.int wide),.sh (.int bU),.ow (av kM),c7,c8,c9]=some [.sh (.lst (ns.map Dat.int)),.sh (.int most),.sh (.int n),.sh (.int many),.sh (.int wide),.sh (.int bU),.ow (av kM),.sh (.int k),c8,c9]:=rfl;rw[hb];dsimp only;obtain⟨t,m1,d8,d9,e,tm,ta,tab,tb,l1,l2⟩:=A6 ns n many wide bU most k kM c8 c9 hn hn2 hw hw2 hk (by lia) (by lia);rw[e];dsimp only;obtain⟨r,m2,f7,f8,f9,e2,rl,rg,ru⟩:=t8 ns n many wide most hn hn2 hw hw2 NU (k+1) m1 (kM++[t]) (.sh (.int k)) d8 d9 (by lia) (by lia) (by simp;lia);refine⟨t::r,m2,f7,f8,f9,by rw[e2,KI];rfl,by simp[rl],⟨by lia,ta,tab,tb,?_⟩,fun u hu=>?_⟩
  ·have mono:∀(r:List Tie) (a b:Int),a<=b->Good n b r->Good n a r:=fun r a b h g=>by
    cases r with
    |nil=>trivial
    |cons x y=>exact⟨LA h g.1,g.2⟩
   exact mono r _ _ (by lia) rg
  ·rcases JV.mp hu with rfl | hu
   ·have:(0:Int)<=(NU+1:Nat)*Z28:=by
     have:(0:Int)<=((NU+1:Nat):Int):=by lia
     unfold Z28;lia
    lia
   ·have:=ru u hu;have e3:((NU+1:Nat):Int)*Z28=NU*Z28+Z28:=by unfold Z28;lia
    lia
theorem ix3(a b c:Dat)(x:Int)(h0:0<=x)(h:x<3):gIx (.lst [a,b,c]) (.int x)=some (.val (if x=0 then a else if x=1 then b else c)):=by
 have:x=0\/x=1\/x=2:=by lia
 rcases this with rfl | rfl | rfl<;>rfl
theorem stA(ns:List Int)(most:Int)(hl:10<=ns.length):∃n:Int,1<=n/\n<=10/\∀pM:FS,
  ai (sA 2 (e2 aN (eC (.int 1)) (e2 aE (e2 gIx (eV 0) (eC (.int 0))) (eC (.int 6)))))
  (ai (sIf (tV (e2 gEq (e2 aE (e2 aX (e2 gIx (eV 0) (eC (.int 0))) (eC (.int 6))) (eC (.int 8))) (eC (.int 1)))) (sA 2 (e2 aN (eC (.int 7)) (e2 aE (e2 aX (e2 gIx (eV 0) (eC (.int 0))) (eC (.int 48))) (eC (.int 4))))) sNx) pM)
   [.sh (.lst (ns.map Dat.int)),.sh (.int most),.un,.un,.un,.un,.un,.un,.un,.un]=pM [.sh (.lst (ns.map Dat.int)),.sh (.int most),.sh (.int n),.un,.un,.un,.un,.un,.un,.un]:=by
 have i0:=fq ns 0 (by decide) (by lia);have m6:=b8 (at' ns 0) 6 (by decide);have m4:=b8 (at' ns 0 / 48) 4 (by decide);have c6:(0<(6:Int)/\(6:Int)<dW)=True:=by simp[dW]
 have c48:(0<(48:Int)/\(48:Int)<dW)=True:=by simp[dW]
 by_cases c:at' ns 0 / 6 % 8=1
 ·refine⟨7+at' ns 0 / 48 % 4,by lia,by lia,fun pM=>?_⟩;have c':(at' ns 0 / 6 % 8=1)=True:=by simp[c]
  simp(config:={ decide:=true }) only[i0,c6,c48,eq_int,c',Dm.fn,Dm.ai,Dm.sA,Dm.sR,Dm.sE,Dm.sU,Dm.sIf,Dm.sNx,Dm.bA,Dm.bB,Dm.aY,Dm.e1,Dm.e2,Dm.eB,Dm.eAs,Dm.eC,Dm.eV,Dm.a_,Dm.aW,Dm.eF,Dm.eIf,Dm.bq,Dm.bC,Dm.tV,Dm.aR,Dm.bz,Dm.tOr,Dm.az,Dm.pk,Dm.tk,Dm.pks,Dm.tks,RV.ay,RV.dat,Dm.aG,Dm.aN,Dm.aZ,Dm.aS,Dm.aX,Dm.aE,Dm.br,Dm.gLt,Dm.gLe,Dm.gGt,Dm.bu,Dm.aH,Dm.aU,Dm.aL,Dm.aQ,Dm.aO,Dm.aT,Dm.bD,Dm.isI,Dm.isB,Dm.isL,Dm.isT,Dm.vB,Dm.vI,Ds,JG,gp,Ju,Jt,Jy,gc,Dk,gV,Jx,Jv,Jw,JI,if_true,if_false,JD,Dm.iR1,Dm.iR2,Dm.iS,Dm.bN,Dm.bT,Dm.sets,reduceIte,JF,Dm.ao,JA,JB,JE,JC,true_or,or_true,true_and,and_true,decide_true,decide_false,false_or,or_false,false_and,and_false]
 ·refine⟨1+at' ns 0 % 6,by lia,by lia,fun pM=>?_⟩;have c':(at' ns 0 / 6 % 8=1)=False:=by simp[c]
  simp(config:={ decide:=true }) only[i0,c6,c48,eq_int,c',Dm.fn,Dm.ai,Dm.sA,Dm.sR,Dm.sE,Dm.sU,Dm.sIf,Dm.sNx,Dm.bA,Dm.bB,Dm.aY,Dm.e1,Dm.e2,Dm.eB,Dm.eAs,Dm.eC,Dm.eV,Dm.a_,Dm.aW,Dm.eF,Dm.eIf,Dm.bq,Dm.bC,Dm.tV,Dm.aR,Dm.bz,Dm.tOr,Dm.az,Dm.pk,Dm.tk,Dm.pks,Dm.tks,RV.ay,RV.dat,Dm.aG,Dm.aN,Dm.aZ,Dm.aS,Dm.aX,Dm.aE,Dm.br,Dm.gLt,Dm.gLe,Dm.gGt,Dm.bu,Dm.aH,Dm.aU,Dm.aL,Dm.aQ,Dm.aO,Dm.aT,Dm.bD,Dm.isI,Dm.isB,Dm.isL,Dm.isT,Dm.vB,Dm.vI,Ds,JG,gp,Ju,Jt,Jy,gc,Dk,gV,Jx,Jv,Jw,JI,if_true,if_false,JD,Dm.iR1,Dm.iR2,Dm.iS,Dm.bN,Dm.bT,Dm.sets,reduceIte,JF,Dm.ao,JA,JB,JE,JC,true_or,or_true,true_and,and_true,decide_true,decide_false,false_or,or_false,false_and,and_false]
theorem stB(ns:List Int)(most n:Int)(hl:10<=ns.length):∃many:Int,0<=many/\many<=60/\∀pM:FS,
  ai (sA 3 (e2 aE (e2 gIx (eV 0) (eC (.int 1))) (eC (.int 13))))
  (ai (sIf (tV (e2 gEq (e2 aE (e2 aX (e2 gIx (eV 0) (eC (.int 1))) (eC (.int 13))) (eC (.int 8))) (eC (.int 1)))) (sA 3 (e2 aN (eC (.int 13)) (e2 aE (e2 aX (e2 gIx (eV 0) (eC (.int 1))) (eC (.int 104))) (eC (.int 48))))) sNx) pM)
   [.sh (.lst (ns.map Dat.int)),.sh (.int most),.sh (.int n),.un,.un,.un,.un,.un,.un,.un]=pM [.sh (.lst (ns.map Dat.int)),.sh (.int most),.sh (.int n),.sh (.int many),.un,.un,.un,.un,.un,.un]:=by
 have i0:=fq ns 1 (by decide) (by lia);have m6:=b8 (at' ns 1) 13 (by decide);have m4:=b8 (at' ns 1 / 104) 48 (by decide);have c6:(0<(13:Int)/\(13:Int)<dW)=True:=by simp[dW]
 have c48:(0<(104:Int)/\(104:Int)<dW)=True:=by simp[dW]
 by_cases c:at' ns 1 / 13 % 8=1
 ·refine⟨13+at' ns 1 / 104 % 48,by lia,by lia,fun pM=>?_⟩;have c':(at' ns 1 / 13 % 8=1)=True:=by simp[c]
  simp(config:={ decide:=true }) only[i0,c6,c48,eq_int,c',Dm.fn,Dm.ai,Dm.sA,Dm.sR,Dm.sE,Dm.sU,Dm.sIf,Dm.sNx,Dm.bA,Dm.bB,Dm.aY,Dm.e1,Dm.e2,Dm.eB,Dm.eAs,Dm.eC,Dm.eV,Dm.a_,Dm.aW,Dm.eF,Dm.eIf,Dm.bq,Dm.bC,Dm.tV,Dm.aR,Dm.bz,Dm.tOr,Dm.az,Dm.pk,Dm.tk,Dm.pks,Dm.tks,RV.ay,RV.dat,Dm.aG,Dm.aN,Dm.aZ,Dm.aS,Dm.aX,Dm.aE,Dm.br,Dm.gLt,Dm.gLe,Dm.gGt,Dm.bu,Dm.aH,Dm.aU,Dm.aL,Dm.aQ,Dm.aO,Dm.aT,Dm.bD,Dm.isI,Dm.isB,Dm.isL,Dm.isT,Dm.vB,Dm.vI,Ds,JG,gp,Ju,Jt,Jy,gc,Dk,gV,Jx,Jv,Jw,JI,if_true,if_false,JD,Dm.iR1,Dm.iR2,Dm.iS,Dm.bN,Dm.bT,Dm.sets,reduceIte,JF,Dm.ao,JA,JB,JE,JC,true_or,or_true,true_and,and_true,decide_true,decide_false,false_or,or_false,false_and,and_false]
 ·refine⟨at' ns 1 % 13,by lia,by lia,fun pM=>?_⟩;have c':(at' ns 1 / 13 % 8=1)=False:=by simp[c]
  simp(config:={ decide:=true }) only[i0,c6,c48,eq_int,c',Dm.fn,Dm.ai,Dm.sA,Dm.sR,Dm.sE,Dm.sU,Dm.sIf,Dm.sNx,Dm.bA,Dm.bB,Dm.aY,Dm.e1,Dm.e2,Dm.eB,Dm.eAs,Dm.eC,Dm.eV,Dm.a_,Dm.aW,Dm.eF,Dm.eIf,Dm.bq,Dm.bC,Dm.tV,Dm.aR,Dm.bz,Dm.tOr,Dm.az,Dm.pk,Dm.tk,Dm.pks,Dm.tks,RV.ay,RV.dat,Dm.aG,Dm.aN,Dm.aZ,Dm.aS,Dm.aX,Dm.aE,Dm.br,Dm.gLt,Dm.gLe,Dm.gGt,Dm.bu,Dm.aH,Dm.aU,Dm.aL,Dm.aQ,Dm.aO,Dm.aT,Dm.bD,Dm.isI,Dm.isB,Dm.isL,Dm.isT,Dm.vB,Dm.vI,Ds,JG,gp,Ju,Jt,Jy,gc,Dk,gV,Jx,Jv,Jw,JI,if_true,if_false,JD,Dm.iR1,Dm.iR2,Dm.iS,Dm.bN,Dm.bT,Dm.sets,reduceIte,JF,Dm.ao,JA,JB,JE,JC,true_or,or_true,true_and,and_true,decide_true,decide_false,false_or,or_false,false_and,and_false]
theorem stC(ns:List Int)(most n many:Int)(hl:10<=ns.length):∃wide bU:Int,1<=wide/\wide<=Z28/\0<=bU/\bU<=100000000000000000000000000000/\∀pM:FS,
  ai (sA 4 (e2 gIx (aW [(eC (.int 1)),(eC (.int 4)),(e2 br (eC (.int 10)) (eC (.int 28)))]) (e2 aE (e2 gIx (eV 0) (eC (.int 2))) (eC (.int 3)))))
  (ai (sA 5 (e2 gIx (aW [(eC (.int 0)),(e2 aE (e2 aX (e2 gIx (eV 0) (eC (.int 2))) (eC (.int 12))) (eC (.int 100))),(e2 aE (e2 gIx (eV 0) (eC (.int 3))) (e2 br (eC (.int 10)) (eC (.int 29))))]) (e2 aE (e2 aX (e2 gIx (eV 0) (eC (.int 2))) (eC (.int 3))) (eC (.int 3)))))
  (ai (sA 6 (aW [])) pM))
   [.sh (.lst (ns.map Dat.int)),.sh (.int most),.sh (.int n),.sh (.int many),.un,.un,.un,.un,.un,.un]=pM [.sh (.lst (ns.map Dat.int)),.sh (.int most),.sh (.int n),.sh (.int many),.sh (.int wide),.sh (.int bU),.ow (av []),.un,.un,.un]:=by
 have i2:=fq ns 2 (by decide) (by lia);have i3:=fq ns 3 (by decide) (by lia);have q1:=b8 (at' ns 2) 3 (by decide);have q2:=b8 (at' ns 2 / 3) 3 (by decide);have q3:=b8 (at' ns 2 / 12) 100 (by decide);have q4:=b8 (at' ns 3) 100000000000000000000000000000 (by decide);have c12:(0<(12:Int)/\(12:Int)<dW)=True:=by simp[dW]
 have c3:(0<(3:Int)/\(3:Int)<dW)=True:=by simp[dW]
 have p28:(10:Int) ^ (28:Int).toNat=Z28:=by decide
 have p29:(10:Int) ^ (29:Int).toNat=100000000000000000000000000000:=by decide
 have z3:(3<=SZ)=True:=by simp[SZ]
 have z0:(0<=SZ)=True:=by simp
 have p0:(0<(100000000000000000000000000000:Int))=True:=by simp
 have w:∃wide:Int,(1<=wide/\wide<=Z28)/\(if at' ns 2 % 3=0 then Dat.int 1 else if at' ns 2 % 3=1 then Dat.int 4 else Dat.int Z28)=.int wide:=by
  split
  ·exact⟨1,by decide,rfl⟩
  ·split
   ·exact⟨4,by decide,rfl⟩
   ·exact⟨Z28,by decide,rfl⟩
 have m:∃mo:Int,(0<=mo/\mo<=100000000000000000000000000000)/\(if at' ns 2 / 3 % 3=0 then Dat.int 0 else if at' ns 2 / 3 % 3=1 then Dat.int (at' ns 2 / 12 % 100) else Dat.int (at' ns 3 % 100000000000000000000000000000))=.int mo:=by
  split
  ·exact⟨0,by decide,rfl⟩
  ·split
   ·exact⟨_,⟨q3.1,by lia⟩,rfl⟩
   ·exact⟨_,⟨q4.1,by lia⟩,rfl⟩
 obtain⟨wide,hw,ew⟩:=w;obtain⟨mo,hm,em⟩:=m;refine⟨wide,mo,hw.1,hw.2,hm.1,hm.2,fun pM=>?_⟩;have g1:=ix3 (.int 1) (.int 4) (.int Z28) (at' ns 2 % 3) q1.1 q1.2;have g2:=ix3 (.int 0) (.int (at' ns 2 / 12 % 100)) (.int (at' ns 3 % 100000000000000000000000000000)) (at' ns 2 / 3 % 3) q2.1 q2.2;rw[ew]at g1;rw[em]at g2;unfold av;simp(config:={ decide:=true }) only[i2,i3,c12,c3,p28,p29,z3,z0,p0,g1,g2,Dm.fn,Dm.ai,Dm.sA,Dm.sR,Dm.sE,Dm.sU,Dm.sIf,Dm.sNx,Dm.bA,Dm.bB,Dm.aY,Dm.e1,Dm.e2,Dm.eB,Dm.eAs,Dm.eC,Dm.eV,Dm.a_,Dm.aW,Dm.eF,Dm.eIf,Dm.bq,Dm.bC,Dm.tV,Dm.aR,Dm.bz,Dm.tOr,Dm.az,Dm.pk,Dm.tk,Dm.pks,Dm.tks,RV.ay,RV.dat,Dm.aG,Dm.aN,Dm.aZ,Dm.aS,Dm.aX,Dm.aE,Dm.br,Dm.gLt,Dm.gLe,Dm.gGt,Dm.bu,Dm.aH,Dm.aU,Dm.aL,Dm.aQ,Dm.aO,Dm.aT,Dm.bD,Dm.isI,Dm.isB,Dm.isL,Dm.isT,Dm.vB,Dm.vI,Ds,JG,gp,Ju,Jt,Jy,gc,Dk,gV,Jx,Jv,Jw,JI,if_true,if_false,JD,Dm.iR1,Dm.iR2,Dm.iS,Dm.bN,Dm.bT,Dm.sets,reduceIte,JF,Dm.ao,JA,JB,JE,JC,true_or,or_true,true_and,and_true,decide_true,decide_false,false_or,or_false,false_and,and_false]
noncomputable abbrev Hi:Int:=700000000000000000000000000000
noncomputable def xR:Option Out->Option RV
 |some (.ret r _)=>some r
 |some (.nx _)=>some (.val .non)
 |_=>none
theorem pU{n m:Nat}{body:FS}{ds:List Dat}(h:ds.length=n)(hρ:ds.map Cell.sh++gc m .un=ρ):fn n m body ds=xR (body ρ):=by unfold fn;rw[if_pos h,hρ];rfl
noncomputable def mgf(f:Int->Int)(a b:Int):Int->Int:=fun x=>if f x=f b then f a else f x
inductive Con(ts:List Tie):Int->Int->Prop
 |refl (x:Int):Con ts x x
 |tie (t:Tie):t∈ts->Con ts t.a t.b
 |symm {x y:Int}:Con ts x y->Con ts y x
 |trans {x y z:Int}:Con ts x y->Con ts y z->Con ts x z
theorem Con.mono(h:∀t∈ts,t∈us)(c:Con ts x y):Con us x y:=by
 induction c with
 |refl x=>exact .refl x
 |tie t m=>exact .tie t (h t m)
 |symm _ ih=>exact .symm ih
 |trans _ _ i1 i2=>exact .trans i1 i2
def Tells(f:Int->Int)(ts:List Tie):Prop:=∀x y,f x=f y↔Con ts x y
theorem Con.nil(c:Con [] x y):x=y:=by
 induction c with
 |refl x=>rfl
 |tie t m=>cases m
 |symm _ ih=>exact ih.symm
 |trans _ _ i1 i2=>exact i1.trans i2
theorem tells_nil:Tells (fun x=>x) []:=fun x y=>⟨fun h=>by cases h;exact .refl _,fun c=>c.nil⟩
theorem tells_same(h:Tells f ts)(e:∀t,t∈ts↔t∈us):Tells f us:=fun x y=>(h x y).trans ⟨Con.mono fun t m=>(e t).mp m,Con.mono fun t m=>(e t).mpr m⟩
theorem tells_mgf{ts:List Tie}(h:Tells f ts)(t:Tie)(a b:Int)(NX:(a=t.a/\b=t.b)\/(a=t.b/\b=t.a)):Tells (mgf f a b) (t::ts):=by
 have up:∀{x y},f x=f y->Con (t::ts) x y:=fun e=>Con.mono (fun u m=>JK _ m) ((h _ _).mp e);have ab:Con (t::ts) a b:=by
  rcases NX with⟨rfl,rfl⟩ | ⟨rfl,rfl⟩
  ·exact .tie t JJ
  ·exact .symm (.tie t JJ)
 intro x y;unfold mgf;constructor
 ·intro e;by_cases hx:f x=f b
  ·rw[if_pos hx]at e;by_cases hy:f y=f b
   ·exact up (hx.trans hy.symm)
   ·rw[if_neg hy]at e;exact .trans (up hx) (.trans (.symm ab) (up e))
  ·rw[if_neg hx]at e;by_cases hy:f y=f b
   ·rw[if_pos hy]at e;exact .trans (up e) (.trans ab (.symm (up hy)))
   ·rw[if_neg hy]at e;exact up e
 ·intro c;have key:∀{x y:Int},Con (t::ts) x y->(if f x=f b then f a else f x)=(if f y=f b then f a else f y):=fun c=>by
   induction c with
   |refl x=>rfl
   |tie u m=>
    rcases JV.mp m with rfl | m
    ·rcases NX with⟨rfl,rfl⟩ | ⟨rfl,rfl⟩
     ·rw[if_pos (rfl:f u.b=f u.b)];split
      ·rfl
      ·rfl
     ·rw[if_pos (rfl:f u.a=f u.a)];split
      ·rfl
      ·rfl
    ·have e:=(h u.a u.b).mpr (.tie u m);rw[e]
   |symm _ ih=>exact ih.symm
   |trans _ _ i1 i2=>exact i1.trans i2
  exact key c
noncomputable def dR(f:Int->Int):List Tie->Int->Int
 |[]=>f
 |t::r=>dR (mgf f t.b t.a) r
theorem jq:∀(r:List Tie) (f:Int->Int) (ts:List Tie),Tells f ts->Tells (dR f r) (r++ts)
 |[],f,ts,h=>h
 |t::r,f,ts,h=>tells_same (jq r _ _ (tells_mgf h t t.b t.a (.inr ⟨rfl,rfl⟩))) fun u=>by
   simp only[Jy,Ks,JV];constructor
   ·rintro(h | h | h)
    ·exact .inr (.inl h)
    ·exact .inl h
    ·exact .inr (.inr h)
   ·rintro(h | h | h)
    ·exact .inr (.inl h)
    ·exact .inl h
    ·exact .inr (.inr h)
theorem xS(r:List Tie)(a b:Int):dR (fun x=>x) r a=dR (fun x=>x) r b↔Con r a b:=by have:=jq r (fun x=>x) [] tells_nil a b;rw[Ke]at this;exact this
noncomputable def lay(r:List Tie)(ms:List Int)(j:Int):List Tie:=((r.zip ms).filter fun p=>decide (p.2=j)).map (·.1)
theorem fu(t:Tie)(m:Int)(r:List Tie)(ms:List Int)(j:Int):lay (t::r) (m::ms) j=if m=j then t::lay r ms j else lay r ms j:=by unfold lay;rw[LM,List.filter_cons];by_cases h:m=j<;>simp[h]
theorem A7(j:Int):lay [] [] j=[]:=rfl
def pV(k:Int)(r:List Tie)(ms:List Int)(t:Tie)(m:Int):Prop:=
 (m=0/\∀j,1<=j->j<=k->Con (lay r ms j) t.a t.b)\/(1<=m/\m<=k/\¬Con (lay r ms m) t.a t.b/\∀j,1<=j->j<m->Con (lay r ms j) t.a t.b)
def b5(k:Int):List Tie->List Int->Prop
 |[],[]=>True
 |t::r,m::ms=>b5 k r ms/\pV k r ms t m
 |_,_=>False
theorem pV.uniq{m m':Int}(h:pV k r ms t m)(h':pV k r ms t m'):m=m':=by
 rcases h with⟨rfl,h⟩ | ⟨h1,h2,h3,h4⟩
 ·rcases h' with⟨rfl,_⟩ | ⟨g1,g2,g3,_⟩
  ·rfl
  ·exact absurd (h m' g1 g2) g3
 ·rcases h' with⟨rfl,h'⟩ | ⟨g1,g2,g3,g4⟩
  ·exact absurd (h' m h1 h2) h3
  ·rcases Int.lt_trichotomy m m' with q | q | q
   ·exact absurd (g4 m h1 q) h3
   ·exact q
   ·exact absurd (h4 m' g1 q) g3
theorem b5.len:∀{r:List Tie} {ms:List Int},b5 k r ms->ms.length=r.length
 |[],[],_=>rfl
 |_::r,_::ms,h=>by simp[b5.len h.1]
 |[],_::_,h=>h.elim
 |_::_,[],h=>h.elim
theorem b5.uniq:∀{r:List Tie} {ms ms':List Int},b5 k r ms->b5 k r ms'->ms=ms'
 |[],[],[],_,_=>rfl
 |_::r,m::ms,m'::ms',h,h'=>by have e:=b5.uniq h.1 h'.1;subst e;rw[h.2.uniq h'.2]
 |[],_::_,_,h,_=>h.elim
 |[],[],_::_,_,h=>h.elim
 |_::_,[],_,h,_=>h.elim
 |_::_,_::_,[],_,h=>h.elim
noncomputable def lab(n:Nat)(f:Int->Int):Dat:=.lst ((Ka n).map fun(i:Nat)=>Dat.int (f i))
theorem fy(n:Nat)(f:Int->Int)(x:Int)(h0:0<=x)(h1:x<n):gIx (lab n f) (.int x)=some (.val (.int (f x))):=by
 unfold lab gIx atI ixN;have hx:x.toNat<n:=by lia
 have hc:((x.toNat:Nat):Int)=x:=by lia
 simp only[JM,Lm,h0,h1,if_true];simp[K9 hx,hc]
theorem xT(n:Nat):Dat.lst (ups 0 n)=lab n fun x=>x:=by unfold ups lab;simp
theorem mU{i own:Nat}{bd:FB}{t:FT}{el:FE}{d:Dat}(h:ρ[i]?=some (.sh d)):bW i own bd t el ρ=bS (iS (eV i)) own bd t el ρ:=by unfold bW;rw[h]
theorem comp_map(g:Int->Int)(bd:FB)(el:FE)(pre:Env)(step:∀(d:Dat) (c:Cell),bd d (pre++[c])=some (pre++[.sh d]))(GP:∀i:Int,el (pre++[.sh (.int i)])=some (.val (.int (g i)),pre++[.sh (.int i)])):∀(xs:List Int) (c:Cell) (kM:List Dat),
  ∃c',b7 bd az el (xs.map Dat.int) (pre++[c]) kM=some (kM++xs.map (fun i=>.int (g i)),pre++[c'])
 |[],c,kM=>⟨c,by simp[b7]⟩
 |x::xs,c,kM=>by rw[Ds,b7,step];dsimp only[az];rw[GP];dsimp only[tk];obtain⟨c',e⟩:=comp_map g bd el pre step GP xs (.sh (.int x)) (kM++[.int (g x)]);exact⟨c',by rw[e];simp⟩
theorem t9(n:Nat)(f:Int->Int):lab n f=.lst (((Ka n).map fun(i:Nat)=>f i).map Dat.int):=by unfold lab;rw[Kr];rfl
theorem vn(n:Nat)(hn:n<=10)(f:Int->Int)(a b:Int)(a0:0<=a)(a1:a<n)(b0:0<=b)(b1:b<n):tN [lab n f,.int a,.int b]=some (.new (lab n (mgf f a b))):=by
 have ia:=fy n f a a0 a1;have ib:=fy n f b b0 b1;have GP:∀i:Int,(eIf (tV (e2 gEq (eV 3) (e2 gIx (eV 0) (eV 2)))) (e2 gIx (eV 0) (eV 1)) (eV 3)) ([.sh (lab n f),.sh (.int a),.sh (.int b)]++[.sh (.int i)])=some (.val (.int (if i=f b then f a else i)),[.sh (lab n f),.sh (.int a),.sh (.int b)]++[.sh (.int i)]):=fun i=>by
  by_cases h:i=f b
  ·have h':(i=f b)=True:=by simp[h]
   simp(config:={ decide:=true }) only[ia,ib,eq_int,h',Dm.fn,Dm.ai,Dm.sA,Dm.sR,Dm.sE,Dm.sU,Dm.sIf,Dm.sNx,Dm.bA,Dm.bB,Dm.aY,Dm.e1,Dm.e2,Dm.eB,Dm.eAs,Dm.eC,Dm.eV,Dm.a_,Dm.aW,Dm.eF,Dm.eIf,Dm.bq,Dm.bC,Dm.tV,Dm.aR,Dm.bz,Dm.tOr,Dm.az,Dm.pk,Dm.tk,Dm.pks,Dm.tks,RV.ay,RV.dat,Dm.aG,Dm.aN,Dm.aZ,Dm.aS,Dm.aX,Dm.aE,Dm.br,Dm.gLt,Dm.gLe,Dm.gGt,Dm.bu,Dm.aH,Dm.aU,Dm.aL,Dm.aQ,Dm.aO,Dm.aT,Dm.bD,Dm.isI,Dm.isB,Dm.isL,Dm.isT,Dm.vB,Dm.vI,Ds,JG,gp,Ju,Jt,Jy,gc,Dk,gV,Jx,Jv,Jw,JI,if_true,if_false,JD,Dm.iR1,Dm.iR2,Dm.iS,Dm.bN,Dm.bT,Dm.sets,reduceIte,JF,Dm.ao,JA,JB,JE,JC,true_or,or_true,true_and,and_true,decide_true,decide_false,false_or,or_false,false_and,and_false]
  ·have h':(i=f b)=False:=by simp[h]
   simp(config:={ decide:=true }) only[ia,ib,eq_int,h',Dm.fn,Dm.ai,Dm.sA,Dm.sR,Dm.sE,Dm.sU,Dm.sIf,Dm.sNx,Dm.bA,Dm.bB,Dm.aY,Dm.e1,Dm.e2,Dm.eB,Dm.eAs,Dm.eC,Dm.eV,Dm.a_,Dm.aW,Dm.eF,Dm.eIf,Dm.bq,Dm.bC,Dm.tV,Dm.aR,Dm.bz,Dm.tOr,Dm.az,Dm.pk,Dm.tk,Dm.pks,Dm.tks,RV.ay,RV.dat,Dm.aG,Dm.aN,Dm.aZ,Dm.aS,Dm.aX,Dm.aE,Dm.br,Dm.gLt,Dm.gLe,Dm.gGt,Dm.bu,Dm.aH,Dm.aU,Dm.aL,Dm.aQ,Dm.aO,Dm.aT,Dm.bD,Dm.isI,Dm.isB,Dm.isL,Dm.isT,Dm.vB,Dm.vI,Ds,JG,gp,Ju,Jt,Jy,gc,Dk,gV,Jx,Jv,Jw,JI,if_true,if_false,JD,Dm.iR1,Dm.iR2,Dm.iS,Dm.bN,Dm.bT,Dm.sets,reduceIte,JF,Dm.ao,JA,JB,JE,JC,true_or,or_true,true_and,and_true,decide_true,decide_false,false_or,or_false,false_and,and_false]
 obtain⟨c',e⟩:=comp_map (fun i=>if i=f b then f a else i) (bN 3) _ [.sh (lab n f),.sh (.int a),.sh (.int b)] (fun _ _=>rfl) GP ((Ka n).map fun(i:Nat)=>f i) .un [];have hz:(((Ka n).map fun(i:Nat)=>f i).map Dat.int).length<=SZ:=by simp[SZ];lia
 unfold tN;refine(pU (ρ:=[.sh (lab n f),.sh (.int a),.sh (.int b)]) rfl rfl).trans ?_;have e':bW 0 1 (bN 3) az (eIf (tV (e2 gEq (eV 3) (e2 gIx (eV 0) (eV 2)))) (e2 gIx (eV 0) (eV 1)) (eV 3)) [.sh (lab n f),.sh (.int a),.sh (.int b)]=some (.new (lab n (mgf f a b)),[.sh (lab n f),.sh (.int a),.sh (.int b)]):=by
  have it:iS (eV 0) [.sh (lab n f),.sh (.int a),.sh (.int b)]=some (((Ka n).map fun(i:Nat)=>f i).map Dat.int,[.sh (lab n f),.sh (.int a),.sh (.int b)]):=by rw[t9];rfl
  rw[mU (d:=lab n f) rfl];unfold bS;rw[it];dsimp only;rw[if_pos hz];show (match b7 _ _ _ _ ([.sh (lab n f),.sh (.int a),.sh (.int b)]++[.un]) [] with | none=>none | some (ys,ρ2)=>some (Val.new (.lst ys),ρ2.take 3))=_;rw[e];dsimp only
  congr 2
  unfold lab mgf;rw[Jt,Kr];rfl
 unfold sR;rw[e'];rfl
noncomputable def bE(a b:Int):Nat->List (Int->Int)->Int
 |_,[]=>0
 |i,f::r=>if f a=f b then bE a b (i+1) r else (i:Int)+1
theorem ku(n:Nat)(a b:Int)(a0:0<=a)(a1:a<n)(b0:0<=b)(b1:b<n)(g:Cell):∀(gs:List (Int->Int)) (i:Nat) (c3 c4:Cell),
  (bE a b i gs=0/\∃ρ,cy (bT [3,4]) gu (iu i (gs.map (lab n))) [g,.sh (.int a),.sh (.int b),c3,c4]=some (.nx ρ)) \/
  ∃ρ,cy (bT [3,4]) gu (iu i (gs.map (lab n))) [g,.sh (.int a),.sh (.int b),c3,c4]=some (.ret (.val (.int (bE a b i gs))) ρ)
 |[],i,c3,c4=>.inl ⟨rfl,_,rfl⟩
 |f::gs,i,c3,c4=>by
  have ia:=fy n f a a0 a1;have ib:=fy n f b b0 b1;rw[Ds,iu,cy];have hb:bT [3,4] (.tup [.int (i:Nat),lab n f]) [g,.sh (.int a),.sh (.int b),c3,c4]=some [g,.sh (.int a),.sh (.int b),.sh (.int (i:Nat)),.sh (lab n f)]:=rfl;rw[hb];dsimp only;by_cases h:f a=f b
  ·have h':(f a=f b)=True:=by simp[h]
   have bd:gu [g,.sh (.int a),.sh (.int b),.sh (.int (i:Nat)),.sh (lab n f)]=some (.nx [g,.sh (.int a),.sh (.int b),.sh (.int (i:Nat)),.sh (lab n f)]):=by unfold gu;simp(config:={ decide:=true }) only[ia,ib,ne_int,h',Dm.fn,Dm.ai,Dm.sA,Dm.sR,Dm.sE,Dm.sU,Dm.sIf,Dm.sNx,Dm.bA,Dm.bB,Dm.aY,Dm.e1,Dm.e2,Dm.eB,Dm.eAs,Dm.eC,Dm.eV,Dm.a_,Dm.aW,Dm.eF,Dm.eIf,Dm.bq,Dm.bC,Dm.tV,Dm.aR,Dm.bz,Dm.tOr,Dm.az,Dm.pk,Dm.tk,Dm.pks,Dm.tks,RV.ay,RV.dat,Dm.aG,Dm.aN,Dm.aZ,Dm.aS,Dm.aX,Dm.aE,Dm.br,Dm.gLt,Dm.gLe,Dm.gGt,Dm.bu,Dm.aH,Dm.aU,Dm.aL,Dm.aQ,Dm.aO,Dm.aT,Dm.bD,Dm.isI,Dm.isB,Dm.isL,Dm.isT,Dm.vB,Dm.vI,Ds,JG,gp,Ju,Jt,Jy,gc,Dk,gV,Jx,Jv,Jw,JI,if_true,if_false,JD,Dm.iR1,Dm.iR2,Dm.iS,Dm.bN,Dm.bT,Dm.sets,reduceIte,JF,Dm.ao,JA,JB,JE,JC,true_or,or_true,true_and,and_true,decide_true,decide_false,false_or,or_false,false_and,and_false]
   rw[bd];dsimp only;rw[show bE a b i (f::gs)=bE a b (i+1) gs by simp[bE,h]];exact ku n a b a0 a1 b0 b1 g gs (i+1) _ _
  ·have h':(f a=f b)=False:=by simp[h]
   have bd:gu [g,.sh (.int a),.sh (.int b),.sh (.int (i:Nat)),.sh (lab n f)]=some (.ret (.val (.int ((i:Int)+1))) [g,.sh (.int a),.sh (.int b),.sh (.int (i:Nat)),.sh (lab n f)]):=by unfold gu;simp(config:={ decide:=true }) only[ia,ib,ne_int,h',Dm.fn,Dm.ai,Dm.sA,Dm.sR,Dm.sE,Dm.sU,Dm.sIf,Dm.sNx,Dm.bA,Dm.bB,Dm.aY,Dm.e1,Dm.e2,Dm.eB,Dm.eAs,Dm.eC,Dm.eV,Dm.a_,Dm.aW,Dm.eF,Dm.eIf,Dm.bq,Dm.bC,Dm.tV,Dm.aR,Dm.bz,Dm.tOr,Dm.az,Dm.pk,Dm.tk,Dm.pks,Dm.tks,RV.ay,RV.dat,Dm.aG,Dm.aN,Dm.aZ,Dm.aS,Dm.aX,Dm.aE,Dm.br,Dm.gLt,Dm.gLe,Dm.gGt,Dm.bu,Dm.aH,Dm.aU,Dm.aL,Dm.aQ,Dm.aO,Dm.aT,Dm.bD,Dm.isI,Dm.isB,Dm.isL,Dm.isT,Dm.vB,Dm.vI,Ds,JG,gp,Ju,Jt,Jy,gc,Dk,gV,Jx,Jv,Jw,JI,if_true,if_false,JD,Dm.iR1,Dm.iR2,Dm.iS,Dm.bN,Dm.bT,Dm.sets,reduceIte,JF,Dm.ao,JA,JB,JE,JC,true_or,or_true,true_and,and_true,decide_true,decide_false,false_or,or_false,false_and,and_false]
   rw[bd];rw[show bE a b i (f::gs)=(i:Int)+1 by simp[bE,h]];exact .inr ⟨_,rfl⟩
theorem xU(n:Nat)(gs:List (Int->Int))(a b:Int)(a0:0<=a)(a1:a<n)(b0:0<=b)(b1:b<n):tO [.lst (gs.map (lab n)),.int a,.int b]=some (.val (.int (bE a b 0 gs))):=by
 unfold tO;refine(pU (ρ:=[.sh (.lst (gs.map (lab n))),.sh (.int a),.sh (.int b),.un,.un]) rfl rfl).trans ?_;rcases ku n a b a0 a1 b0 b1 (.sh (.lst (gs.map (lab n)))) gs 0 .un .un with⟨h,ρ,e⟩ | ⟨ρ,e⟩
 ·rw[h];simp(config:={ decide:=true }) only[iEn,e,xR,Dm.fn,Dm.ai,Dm.sA,Dm.sR,Dm.sE,Dm.sU,Dm.sIf,Dm.sNx,Dm.bA,Dm.bB,Dm.aY,Dm.e1,Dm.e2,Dm.eB,Dm.eAs,Dm.eC,Dm.eV,Dm.a_,Dm.aW,Dm.eF,Dm.eIf,Dm.bq,Dm.bC,Dm.tV,Dm.aR,Dm.bz,Dm.tOr,Dm.az,Dm.pk,Dm.tk,Dm.pks,Dm.tks,RV.ay,RV.dat,Dm.aG,Dm.aN,Dm.aZ,Dm.aS,Dm.aX,Dm.aE,Dm.br,Dm.gLt,Dm.gLe,Dm.gGt,Dm.bu,Dm.aH,Dm.aU,Dm.aL,Dm.aQ,Dm.aO,Dm.aT,Dm.bD,Dm.isI,Dm.isB,Dm.isL,Dm.isT,Dm.vB,Dm.vI,Ds,JG,gp,Ju,Jt,Jy,gc,Dk,gV,Jx,Jv,Jw,JI,if_true,if_false,JD,Dm.iR1,Dm.iR2,Dm.iS,Dm.bN,Dm.bT,Dm.sets,reduceIte,JF,Dm.ao,JA,JB,JE,JC,true_or,or_true,true_and,and_true,decide_true,decide_false,false_or,or_false,false_and,and_false]
 ·simp(config:={ decide:=true }) only[iEn,e,xR,Dm.fn,Dm.ai,Dm.sA,Dm.sR,Dm.sE,Dm.sU,Dm.sIf,Dm.sNx,Dm.bA,Dm.bB,Dm.aY,Dm.e1,Dm.e2,Dm.eB,Dm.eAs,Dm.eC,Dm.eV,Dm.a_,Dm.aW,Dm.eF,Dm.eIf,Dm.bq,Dm.bC,Dm.tV,Dm.aR,Dm.bz,Dm.tOr,Dm.az,Dm.pk,Dm.tk,Dm.pks,Dm.tks,RV.ay,RV.dat,Dm.aG,Dm.aN,Dm.aZ,Dm.aS,Dm.aX,Dm.aE,Dm.br,Dm.gLt,Dm.gLe,Dm.gGt,Dm.bu,Dm.aH,Dm.aU,Dm.aL,Dm.aQ,Dm.aO,Dm.aT,Dm.bD,Dm.isI,Dm.isB,Dm.isL,Dm.isT,Dm.vB,Dm.vI,Ds,JG,gp,Ju,Jt,Jy,gc,Dk,gV,Jx,Jv,Jw,JI,if_true,if_false,JD,Dm.iR1,Dm.iR2,Dm.iS,Dm.bN,Dm.bT,Dm.sets,reduceIte,JF,Dm.ao,JA,JB,JE,JC,true_or,or_true,true_and,and_true,decide_true,decide_false,false_or,or_false,false_and,and_false]
theorem dS(a b:Int):∀(gs:List (Int->Int)) (i:Nat),(bE a b i gs=0/\∀f∈gs,f a=f b)\/(∃j f,gs[j]?=some f/\bE a b i gs=((i+j:Nat):Int)+1/\f a≠f b/\∀(j':Nat) f',j'<j->gs[j']?=some f'->f' a=f' b)
 |[],i=>.inl ⟨rfl,fun f h=>by cases h⟩
 |f::gs,i=>by
  by_cases h:f a=f b
  ·have e:bE a b i (f::gs)=bE a b (i+1) gs:=by simp[bE,h]
   rw[e];rcases dS a b gs (i+1) with⟨h1,h2⟩ | ⟨j,g,h1,h2,h3,h4⟩
   ·refine .inl ⟨h1,fun g hg=>?_⟩;rcases JV.mp hg with rfl | hg
    ·exact h
    ·exact h2 g hg
   ·refine .inr ⟨j+1,g,h1,by rw[h2];lia,h3,fun j' f' hj hf=>?_⟩;cases j' with
    |zero=>cases hf;exact h
    |succ j'=>exact h4 j' f' (by lia) hf
  ·exact .inr ⟨0,f,rfl,by simp[bE,h],h,fun j' f' hj=>by lia⟩
def Ends(n:Int)(r:List Tie):Prop:=∀t∈r,0<=t.a/\t.a<n/\0<=t.b/\t.b<n
noncomputable def pW(gs:List (Int->Int))(t:Tie):List (Int->Int):=
 if 0<bE t.a t.b 0 gs then gs.set (bE t.a t.b 0 gs-1).toNat (mgf (gs.getD (bE t.a t.b 0 gs-1).toNat fun x=>x) t.a t.b) else gs
def nU(k:Nat)(gs:List (Int->Int))(r:List Tie)(ms:List Int):Prop:=gs.length=k/\∀(j:Nat) f,gs[j]?=some f->Tells f (lay r ms ((j:Int)+1))
theorem nU.num{k:Nat}(h:nU k gs r ms)(t:Tie):pV k r ms t (bE t.a t.b 0 gs):=by
 obtain⟨hl,ht⟩:=h;rcases dS t.a t.b gs 0 with⟨h1,h2⟩ | ⟨j,f,h1,h2,h3,h4⟩
 ·refine .inl ⟨h1,fun j j1 j2=>?_⟩;have hj:(j-1).toNat<gs.length:=by lia
  have:=(ht (j-1).toNat _ (JX hj) t.a t.b).mp (h2 _ (List.getElem_mem hj));rw[show (((j-1).toNat:Nat):Int)+1=j by lia]at this;exact this
 ·have hj:j<gs.length:=(JH.mp h1).1;rw[h2];refine .inr ⟨by lia,by lia,fun c=>h3 ((ht j f h1 t.a t.b).mpr (by rw[show ((0+j:Nat):Int)+1=(j:Int)+1 by lia]at c;exact c)),fun i i1 i2=>?_⟩;have hi:(i-1).toNat<gs.length:=by lia
  have:=(ht (i-1).toNat _ (JX hi) t.a t.b).mp (h4 (i-1).toNat _ (by lia) (JX hi));rw[show (((i-1).toNat:Nat):Int)+1=i by lia]at this;exact this
theorem nU.step{k:Nat}(h:nU k gs r ms)(t:Tie):nU k (pW gs t) (t::r) (bE t.a t.b 0 gs::ms):=by
 obtain⟨hl,ht⟩:=h;unfold pW;rcases dS t.a t.b gs 0 with⟨h1,h2⟩ | ⟨j,f,h1,h2,h3,h4⟩
 ·rw[h1];refine⟨by simpa using hl,fun i g hg=>?_⟩;rw[fu,if_neg (by lia)];exact ht i g (by simpa using hg)
 ·have hj:j<gs.length:=(JH.mp h1).1;have e:bE t.a t.b 0 gs=(j:Int)+1:=by rw[h2];lia
  have e2:((j:Int)+1-1).toNat=j:=by lia
  rw[e,if_pos (by lia),e2];have eg:(gs.getD j fun x=>x)=f:=by rw[Kg,h1];rfl
  rw[eg];refine⟨by rw[Kc];exact hl,fun i g hg=>?_⟩;rw[fu];by_cases q:j=i
  ·subst q;rw[J3 hj]at hg;cases hg;rw[if_pos rfl];exact tells_mgf (ht j f h1) t t.a t.b (.inl ⟨rfl,rfl⟩)
  ·rw[Jz q]at hg;rw[if_neg (by lia)];exact ht i g hg
theorem A8(n:Nat)(f:Int->Int):aG (lab n f)=true:=rfl
theorem IZ(j:Int):j+1-1=j:=by lia
theorem map_set(n:Nat)(gs:List (Int->Int))(i:Nat)(f:Int->Int):(gs.map (lab n)).set i (lab n f)=(gs.set i f).map (lab n):=by rw[List.map_set]
theorem nV(n:Nat)(hn:n<=10)(gs:List (Int->Int))(hk:gs.length<=10)(t:Tie)(a0:0<=t.a)(a1:t.a<n)(b0:0<=t.b)(b1:t.b<n)(ds:List Dat)(hd:ds.length<SZ)(c0 c1 c2 c5 c8:Cell) :
  kg [c0,c1,c2,.ow (.lst (gs.map (lab n))),.ow (.lst ds),c5,.sh (.int t.a),.sh (.int t.b),c8] =
   some (.nx [c0,c1,c2,.ow (.lst ((pW gs t).map (lab n))),.ow (.lst (ds++[.int (bE t.a t.b 0 gs)])),c5,.sh (.int t.a),.sh (.int t.b),.sh (.int (bE t.a t.b 0 gs))]):=by
 have el:=xU n gs t.a t.b a0 a1 b0 b1;have hd':(ds.length<SZ)=True:=by simp[hd]
 unfold kg pW;rcases dS t.a t.b gs 0 with⟨h1,h2⟩ | ⟨j,f,h1,h2,h3,h4⟩
 ·rw[h1]at el ⊢;simp(config:={ decide:=true }) only[el,hd',Dm.fn,Dm.ai,Dm.sA,Dm.sR,Dm.sE,Dm.sU,Dm.sIf,Dm.sNx,Dm.bA,Dm.bB,Dm.aY,Dm.e1,Dm.e2,Dm.eB,Dm.eAs,Dm.eC,Dm.eV,Dm.a_,Dm.aW,Dm.eF,Dm.eIf,Dm.bq,Dm.bC,Dm.tV,Dm.aR,Dm.bz,Dm.tOr,Dm.az,Dm.pk,Dm.tk,Dm.pks,Dm.tks,RV.ay,RV.dat,Dm.aG,Dm.aN,Dm.aZ,Dm.aS,Dm.aX,Dm.aE,Dm.br,Dm.gLt,Dm.gLe,Dm.gGt,Dm.bu,Dm.aH,Dm.aU,Dm.aL,Dm.aQ,Dm.aO,Dm.aT,Dm.bD,Dm.isI,Dm.isB,Dm.isL,Dm.isT,Dm.vB,Dm.vI,Ds,JG,gp,Ju,Jt,Jy,gc,Dk,gV,Jx,Jv,Jw,JI,if_true,if_false,JD,Dm.iR1,Dm.iR2,Dm.iS,Dm.bN,Dm.bT,Dm.sets,reduceIte,JF,Dm.ao,JA,JB,JE,JC,true_or,or_true,true_and,and_true,decide_true,decide_false,false_or,or_false,false_and,and_false]
 ·have hj:j<gs.length:=(JH.mp h1).1;have e:bE t.a t.b 0 gs=(j:Int)+1:=by rw[h2];lia
  have eg:(gs.getD j fun x=>x)=f:=by rw[Kg,h1];rfl
  have e2:((j:Int)+1-1).toNat=j:=by lia
  rw[e]at el ⊢;have p:(0<(j:Int)+1)=True:=by simp only[eq_iff_iff,iff_true];lia
  have ix:ixN gs.length (j:Int)=some j:=by unfold ixN;rw[if_pos (by lia),if_pos (by lia)];simp
  have gi:gIx (.lst (gs.map (lab n))) (.int (j:Int))=some (.val (lab n f)):=by unfold gIx atI;simp only[JM,ix];show (((gs.map (lab n))[j]?).map RV.val)=_;rw[JT,h1];rfl
  have em:=vn n hn f t.a t.b a0 a1 b0 b1;simp only[p,if_true,e2,eg,<- map_set];simp(config:={ decide:=true }) only[el,p,IZ,gi,em,A8,JM,ix,hd',Dm.fn,Dm.ai,Dm.sA,Dm.sR,Dm.sE,Dm.sU,Dm.sIf,Dm.sNx,Dm.bA,Dm.bB,Dm.aY,Dm.e1,Dm.e2,Dm.eB,Dm.eAs,Dm.eC,Dm.eV,Dm.a_,Dm.aW,Dm.eF,Dm.eIf,Dm.bq,Dm.bC,Dm.tV,Dm.aR,Dm.bz,Dm.tOr,Dm.az,Dm.pk,Dm.tk,Dm.pks,Dm.tks,RV.ay,RV.dat,eK,ja,fL,fM,Dm.aZ,Dm.aS,Dm.aX,Dm.aE,Dm.br,Dm.gLt,Dm.gLe,Dm.gGt,Dm.bu,Dm.aH,Dm.aL,Dm.aQ,Dm.aO,Dm.bD,Dm.vB,Dm.vI,Ds,JG,gp,Ju,Jt,Jy,gc,Dk,gV,Jx,Jv,Jw,JI,if_true,if_false,JD,Dm.iR1,Dm.iR2,Dm.iS,Dm.bN,Dm.bT,Dm.sets,reduceIte,JF,Dm.ao,JA,JB,JE,JC,true_or,or_true,true_and,and_true,decide_true,decide_false,false_or,or_false,false_and,and_false]
theorem iA(n k:Nat)(hn:n<=10)(hk:k<=10)(c0 c1 c2:Cell):∀(xs ys:List Tie) (ms:List Int) (gs:List (Int->Int)) (c5 c6 c7 c8:Cell),Ends n xs->nU k gs ys ms->b5 k ys ms->xs.length+ys.length<SZ ->
  ∃(ms':List Int) (gs':List (Int->Int)) (c5' c6' c7' c8':Cell),cy (bT [5,6,7]) kg (xs.map bw) [c0,c1,c2,.ow (.lst (gs.map (lab n))),.ow (.lst (ms.reverse.map Dat.int)),c5,c6,c7,c8] =
   some (.nx [c0,c1,c2,.ow (.lst (gs'.map (lab n))),.ow (.lst (ms'.reverse.map Dat.int)),c5',c6',c7',c8'])/\b5 k (xs.reverse++ys) ms'
 |[],ys,ms,gs,c5,c6,c7,c8,_,_,ha,_=>⟨ms,gs,c5,c6,c7,c8,rfl,ha⟩
 |t::xs,ys,ms,gs,c5,c6,c7,c8,he,hi,ha,hs=>by
  obtain⟨a0,a1,b0,b1⟩:=he t JJ;rw[Ds,cy];have hb:bT [5,6,7] (bw t) [c0,c1,c2,.ow (.lst (gs.map (lab n))),.ow (.lst (ms.reverse.map Dat.int)),c5,c6,c7,c8]=some [c0,c1,c2,.ow (.lst (gs.map (lab n))),.ow (.lst (ms.reverse.map Dat.int)),.sh (.int t.m),.sh (.int t.a),.sh (.int t.b),c8]:=rfl;rw[hb];dsimp only;have hl:=ha.len;have hs':ys.length+(xs.length+1)<SZ:=by simp only[gp]at hs;lia
  rw[nV n hn gs (by rw[hi.1];exact hk) t a0 a1 b0 b1 (ms.reverse.map Dat.int) (by simp;lia)];dsimp only;obtain⟨ms',gs',d5,d6,d7,d8,e,al⟩:=iA n k hn hk c0 c1 c2 xs (t::ys) (bE t.a t.b 0 gs::ms) (pW gs t) (.sh (.int t.m)) (.sh (.int t.a)) (.sh (.int t.b)) (.sh (.int (bE t.a t.b 0 gs))) (fun u hu=>he u (JK _ hu)) (hi.step t) ⟨ha,hi.num t⟩ (by simp only[gp];lia);refine⟨ms',gs',d5,d6,d7,d8,?_,by simpa using al⟩;rw[<- e,LS,LB];rfl
theorem xV(i:Int):xO [.int i]=some (.val (.bl true)):=by
 apply Mw;unfold xO
 (refine Dm.Mx ?_ rfl rfl;and_intros)
 refine Mv (MQ (ML (K_ rfl (MG (v:=.val (.bl true)) (Mn (MF ?_)) rfl rfl))));exact⟨_,_,rfl,rfl⟩
theorem vo(i lo hi:Int)(h1:lo<=i)(h2:i<=hi):gk [.int i,.int lo,.int hi]=some (.val (.bl true)):=by
 apply Mw;unfold gk
 (refine Dm.Mx ?_ rfl rfl;and_intros)
 refine Mv (MQ (Ms (m_ (K_ rfl (J_ (Mp (xV i) (Mn (MF ?_)) rfl rfl))))));have e1:gLe (.int lo) (.int i)=some (.val (.bl true)):=by show vB (decide (lo<=i))=_;rw[decide_eq_true h1]
 have e2:gLe (.int i) (.int hi)=some (.val (.bl true)):=by show vB (decide (i<=hi))=_;rw[decide_eq_true h2]
 have e:ao gLe gLe (eV 1) (eV 0) (eV 2) [.sh (.int i),.sh (.int lo),.sh (.int hi)]=some (.val (.bl true),[.sh (.int i),.sh (.int lo),.sh (.int hi)]):=by unfold ao;simp only[eV,Dk,gV,pk,e1,e2,RV.ay]
 exact⟨_,_,e,rfl⟩
theorem vp(k:Int)(h1:1<=k)(h6:k<=6):A4 [.int k]=some (.val .non):=by
 have e:kc [.int k]=some (.val (.bl true)):=by
  apply Mw;unfold kc
  (refine Dm.Mx ?_ rfl rfl;and_intros)
  exact Mv (Ms (m_ (K_ rfl (m_ (L_ (m_ (L_ (J_ (Mp (vo k 1 6 h1 h6) rfl rfl rfl)))))))))
 apply Mw;unfold A4
 (refine Dm.Mx ?_ rfl rfl;and_intros)
 exact My (Mu (Mt (Ms (m_ (K_ rfl (J_ (Mp e (Mn (Mz (MA rfl))) rfl rfl)))))))
theorem comp_const(d:Dat)(i0:Nat)(bd:FB)(el:FE)(pre:Env)(step:∀(d:Dat) (c:Cell),bd d (pre++[c])=some (pre++[.sh d]))(GP:∀c:Cell,el (pre++[c])=some (.new d,pre++[c])):∀(xs:List Dat) (c:Cell) (kM:List Dat),
  ∃c',b7 bd az el xs (pre++[c]) kM=some (kM++gc xs.length d,pre++[c'])
 |[],c,kM=>⟨c,by simp[b7]⟩
 |x::xs,c,kM=>by rw[b7,step];dsimp only[az];rw[GP];dsimp only[tk];obtain⟨c',e⟩:=comp_const d i0 bd el pre step GP xs (.sh x) (kM++[d]);exact⟨c',by rw[e,gp,Kn];simp⟩
theorem nW(lo:Int)(n:Nat):(ups lo n).length=n:=by simp[ups]
theorem rK(n k:Nat)(hn:n<=10)(hk1:1<=k)(hk6:k<=6)(r:List Tie)(hr:Ends n r)(hl:r.length<=1000):∃ms:List Int,tP [.int n,av r,.int k]=some (.new (.lst (ms.map Dat.int)))/\b5 k r ms:=by
 have Ej:nU k (gc k fun x=>x) [] []:=⟨by simp,fun j f hf=>by have hm:=Li (KD hf);subst hm;exact tells_nil⟩
 have er:Ends n r.reverse:=fun t ht=>hr t (List.mem_reverse.mp ht);obtain⟨ms,gs,d5,d6,d7,d8,e,al⟩:=iA n k hn (by lia) (.sh (.int n)) (.sh (av r)) (.sh (.int k)) r.reverse [] [] (gc k fun x=>x) .un .un .un .un er Ej trivial (by simp[SZ];lia);rw[List.reverse_reverse,Ke]at al;refine⟨ms,?_,al⟩;have lk:=vp k (by lia) (by lia);have hb:((k:Int)<=BIG/\-BIG<=(k:Int))=True:=by simp only[eq_iff_iff,iff_true];unfold BIG;lia
 have gl:eW [.int (n:Int)]=some (.new (lab n fun x=>x)):=by unfold eW;dsimp only;rw[if_pos (by lia),Ky,xT]
 have GP:∀c:Cell,(eB eW [(eV 0)]) ([.sh (.int n),.sh (av r),.sh (.int k),.un,.un,.un,.un,.un,.un]++[c])=some (.new (lab n fun x=>x),[.sh (.int n),.sh (av r),.sh (.int k),.un,.un,.un,.un,.un,.un]++[c]):=fun c=>by simp(config:={ decide:=true }) only[gl,Dm.fn,Dm.ai,Dm.sA,Dm.sR,Dm.sE,Dm.sU,Dm.sIf,Dm.sNx,Dm.bA,Dm.bB,Dm.aY,Dm.e1,Dm.e2,Dm.eB,Dm.eAs,Dm.eC,Dm.eV,Dm.a_,Dm.aW,Dm.eF,Dm.eIf,Dm.bq,Dm.bC,Dm.tV,Dm.aR,Dm.bz,Dm.tOr,Dm.az,Dm.pk,Dm.tk,Dm.pks,Dm.tks,RV.ay,RV.dat,Dm.aG,Dm.aN,Dm.aZ,Dm.aS,Dm.aX,Dm.aE,Dm.br,Dm.gLt,Dm.gLe,Dm.gGt,Dm.bu,Dm.aH,Dm.aU,Dm.aL,Dm.aQ,Dm.aO,Dm.aT,Dm.bD,Dm.isI,Dm.isB,Dm.isL,Dm.isT,Dm.vB,Dm.vI,Ds,JG,gp,Ju,Jt,Jy,gc,Dk,gV,Jx,Jv,Jw,JI,if_true,if_false,JD,Dm.iR1,Dm.iR2,Dm.iS,Dm.bN,Dm.bT,Dm.sets,reduceIte,JF,Dm.ao,JA,JB,JE,JC,true_or,or_true,true_and,and_true,decide_true,decide_false,false_or,or_false,false_and,and_false]
 obtain⟨c',ec⟩:=comp_const (lab n fun x=>x) 0 (bN 9) _ [.sh (.int n),.sh (av r),.sh (.int k),.un,.un,.un,.un,.un,.un] (fun _ _=>rfl) GP (ups 0 k) .un [];have cp:bS (iR1 (eV 2)) 1 (bN 9) az (eB eW [(eV 0)]) [.sh (.int n),.sh (av r),.sh (.int k),.un,.un,.un,.un,.un,.un]=some (.new (.lst ((gc k fun x=>x).map (lab n))),[.sh (.int n),.sh (av r),.sh (.int k),.un,.un,.un,.un,.un,.un]):=by
  unfold bS;have it:iR1 (eV 2) [.sh (.int n),.sh (av r),.sh (.int k),.un,.un,.un,.un,.un,.un]=some (ups 0 k,[.sh (.int n),.sh (av r),.sh (.int k),.un,.un,.un,.un,.un,.un]):=by simp(config:={ decide:=true }) only[hb,Ky,Dm.fn,Dm.ai,Dm.sA,Dm.sR,Dm.sE,Dm.sU,Dm.sIf,Dm.sNx,Dm.bA,Dm.bB,Dm.aY,Dm.e1,Dm.e2,Dm.eB,Dm.eAs,Dm.eC,Dm.eV,Dm.a_,Dm.aW,Dm.eF,Dm.eIf,Dm.bq,Dm.bC,Dm.tV,Dm.aR,Dm.bz,Dm.tOr,Dm.az,Dm.pk,Dm.tk,Dm.pks,Dm.tks,RV.ay,RV.dat,Dm.aG,Dm.aN,Dm.aZ,Dm.aS,Dm.aX,Dm.aE,Dm.br,Dm.gLt,Dm.gLe,Dm.gGt,Dm.bu,Dm.aH,Dm.aU,Dm.aL,Dm.aQ,Dm.aO,Dm.aT,Dm.bD,Dm.isI,Dm.isB,Dm.isL,Dm.isT,Dm.vB,Dm.vI,Ds,JG,gp,Ju,Jt,Jy,gc,Dk,gV,Jx,Jv,Jw,JI,if_true,if_false,JD,Dm.iR1,Dm.iR2,Dm.iS,Dm.bN,Dm.bT,Dm.sets,reduceIte,JF,Dm.ao,JA,JB,JE,JC,true_or,or_true,true_and,and_true,decide_true,decide_false,false_or,or_false,false_and,and_false]
  rw[it];dsimp only;rw[if_pos (by rw[nW];simp[SZ];lia)];have:[Cell.sh (.int n),.sh (av r),.sh (.int k),.un,.un,.un,.un,.un,.un]++gc 1 Cell.un=[.sh (.int n),.sh (av r),.sh (.int k),.un,.un,.un,.un,.un,.un]++[.un]:=rfl;rw[this,ec];dsimp only;rw[nW,Jt,List.map_replicate];rfl
 have z0:(0<=SZ)=True:=by simp
 have itr:uZ (eV 1) [.sh (.int n),.sh (av r),.sh (.int k),.ow (.lst ((gc k fun x=>x).map (lab n))),.ow (.lst []),.un,.un,.un,.un]=some (r.reverse.map bw,[.sh (.int n),.sh (av r),.sh (.int k),.ow (.lst ((gc k fun x=>x).map (lab n))),.ow (.lst []),.un,.un,.un,.un]):=by unfold uZ av;simp(config:={ decide:=true }) only[List.map_reverse,Dm.fn,Dm.ai,Dm.sA,Dm.sR,Dm.sE,Dm.sU,Dm.sIf,Dm.sNx,Dm.bA,Dm.bB,Dm.aY,Dm.e1,Dm.e2,Dm.eB,Dm.eAs,Dm.eC,Dm.eV,Dm.a_,Dm.aW,Dm.eF,Dm.eIf,Dm.bq,Dm.bC,Dm.tV,Dm.aR,Dm.bz,Dm.tOr,Dm.az,Dm.pk,Dm.tk,Dm.pks,Dm.tks,RV.ay,RV.dat,Dm.aG,Dm.aN,Dm.aZ,Dm.aS,Dm.aX,Dm.aE,Dm.br,Dm.gLt,Dm.gLe,Dm.gGt,Dm.bu,Dm.aH,Dm.aU,Dm.aL,Dm.aQ,Dm.aO,Dm.aT,Dm.bD,Dm.isI,Dm.isB,Dm.isL,Dm.isT,Dm.vB,Dm.vI,Ds,JG,gp,Ju,Jt,Jy,gc,Dk,gV,Jx,Jv,Jw,JI,if_true,if_false,JD,Dm.iR1,Dm.iR2,Dm.iS,Dm.bN,Dm.bT,Dm.sets,reduceIte,JF,Dm.ao,JA,JB,JE,JC,true_or,or_true,true_and,and_true,decide_true,decide_false,false_or,or_false,false_and,and_false]
 unfold tP;refine(pU (ρ:=[.sh (.int n),.sh (av r),.sh (.int k),.un,.un,.un,.un,.un,.un]) rfl rfl).trans ?_;have e':cy (bT [5,6,7]) kg (r.reverse.map bw) [.sh (.int n),.sh (av r),.sh (.int k),.ow (.lst ((gc k fun x=>x).map (lab n))),.ow (.lst []),.un,.un,.un,.un]=_:=e;have gr:iV (.lst (ms.reverse.map Dat.int))=some (.new (.lst (ms.map Dat.int))):=by unfold iV;dsimp only;rw[<- List.map_reverse,List.reverse_reverse]
 simp(config:={ decide:=true }) only[lk,cp,z0,itr,e',gr,xR,Dm.fn,Dm.ai,Dm.sA,Dm.sR,Dm.sE,Dm.sU,Dm.sIf,Dm.sNx,Dm.bA,Dm.bB,Dm.aY,Dm.e1,Dm.e2,Dm.eB,Dm.eAs,Dm.eC,Dm.eV,Dm.a_,Dm.aW,Dm.eF,Dm.eIf,Dm.bq,Dm.bC,Dm.tV,Dm.aR,Dm.bz,Dm.tOr,Dm.az,Dm.pk,Dm.tk,Dm.pks,Dm.tks,RV.ay,RV.dat,Dm.aG,Dm.aN,Dm.aZ,Dm.aS,Dm.aX,Dm.aE,Dm.br,Dm.gLt,Dm.gLe,Dm.gGt,Dm.bu,Dm.aH,Dm.aU,Dm.aL,Dm.aQ,Dm.aO,Dm.aT,Dm.bD,Dm.isI,Dm.isB,Dm.isL,Dm.isT,Dm.vB,Dm.vI,Ds,JG,gp,Ju,Jt,Jy,gc,Dk,gV,Jx,Jv,Jw,JI,if_true,if_false,JD,Dm.iR1,Dm.iR2,Dm.iS,Dm.bN,Dm.bT,Dm.sets,reduceIte,JF,Dm.ao,JA,JB,JE,JC,true_or,or_true,true_and,and_true,decide_true,decide_false,false_or,or_false,false_and,and_false]
theorem Ej(k:Nat):nU k ((Ka k).map fun _=>(fun x:Int=>x)) [] []:=⟨by simp,fun j f hf=>by
 rw[JT]at hf;cases h:(Ka k)[j]? with
 |none=>rw[h]at hf;cases hf
 |some x=>rw[h]at hf;cases hf;exact tells_nil⟩
theorem pX(n:Nat)(hn:n<=10)(f:Int->Int)(t:Tie)(a0:0<=t.a)(a1:t.a<n)(b0:0<=t.b)(b1:t.b<n)(c0 c1 c2 c3 c5 c8 c9:Cell) :
  ki [c0,c1,c2,c3,.ow (lab n f),c5,.sh (.int t.a),.sh (.int t.b),c8,c9]=some (.nx [c0,c1,c2,c3,.ow (lab n (mgf f t.b t.a)),c5,.sh (.int t.a),.sh (.int t.b),.sh (.int (f t.a)),.sh (.int (f t.b))]):=by
 have ia:=fy n f t.a a0 a1;have ib:=fy n f t.b b0 b1;have GP:∀i:Int,(eIf (tV (e2 gEq (eV 10) (eV 8))) (eV 9) (eV 10)) ([c0,c1,c2,c3,.un,c5,.sh (.int t.a),.sh (.int t.b),.sh (.int (f t.a)),.sh (.int (f t.b))]++[.sh (.int i)])=some (.val (.int (if i=f t.a then f t.b else i)),[c0,c1,c2,c3,.un,c5,.sh (.int t.a),.sh (.int t.b),.sh (.int (f t.a)),.sh (.int (f t.b))]++[.sh (.int i)]):=fun i=>by
  by_cases h:i=f t.a
  ·have h':(i=f t.a)=True:=by simp[h]
   simp(config:={ decide:=true }) only[eq_int,h',Dm.fn,Dm.ai,Dm.sA,Dm.sR,Dm.sE,Dm.sU,Dm.sIf,Dm.sNx,Dm.bA,Dm.bB,Dm.aY,Dm.e1,Dm.e2,Dm.eB,Dm.eAs,Dm.eC,Dm.eV,Dm.a_,Dm.aW,Dm.eF,Dm.eIf,Dm.bq,Dm.bC,Dm.tV,Dm.aR,Dm.bz,Dm.tOr,Dm.az,Dm.pk,Dm.tk,Dm.pks,Dm.tks,RV.ay,RV.dat,Dm.aG,Dm.aN,Dm.aZ,Dm.aS,Dm.aX,Dm.aE,Dm.br,Dm.gLt,Dm.gLe,Dm.gGt,Dm.bu,Dm.aH,Dm.aU,Dm.aL,Dm.aQ,Dm.aO,Dm.aT,Dm.bD,Dm.isI,Dm.isB,Dm.isL,Dm.isT,Dm.vB,Dm.vI,Ds,JG,gp,Ju,Jt,Jy,gc,Dk,gV,Jx,Jv,Jw,JI,if_true,if_false,JD,Dm.iR1,Dm.iR2,Dm.iS,Dm.bN,Dm.bT,Dm.sets,reduceIte,JF,Dm.ao,JA,JB,JE,JC,true_or,or_true,true_and,and_true,decide_true,decide_false,false_or,or_false,false_and,and_false]
  ·have h':(i=f t.a)=False:=by simp[h]
   simp(config:={ decide:=true }) only[eq_int,h',Dm.fn,Dm.ai,Dm.sA,Dm.sR,Dm.sE,Dm.sU,Dm.sIf,Dm.sNx,Dm.bA,Dm.bB,Dm.aY,Dm.e1,Dm.e2,Dm.eB,Dm.eAs,Dm.eC,Dm.eV,Dm.a_,Dm.aW,Dm.eF,Dm.eIf,Dm.bq,Dm.bC,Dm.tV,Dm.aR,Dm.bz,Dm.tOr,Dm.az,Dm.pk,Dm.tk,Dm.pks,Dm.tks,RV.ay,RV.dat,Dm.aG,Dm.aN,Dm.aZ,Dm.aS,Dm.aX,Dm.aE,Dm.br,Dm.gLt,Dm.gLe,Dm.gGt,Dm.bu,Dm.aH,Dm.aU,Dm.aL,Dm.aQ,Dm.aO,Dm.aT,Dm.bD,Dm.isI,Dm.isB,Dm.isL,Dm.isT,Dm.vB,Dm.vI,Ds,JG,gp,Ju,Jt,Jy,gc,Dk,gV,Jx,Jv,Jw,JI,if_true,if_false,JD,Dm.iR1,Dm.iR2,Dm.iS,Dm.bN,Dm.bT,Dm.sets,reduceIte,JF,Dm.ao,JA,JB,JE,JC,true_or,or_true,true_and,and_true,decide_true,decide_false,false_or,or_false,false_and,and_false]
 obtain⟨c',e⟩:=comp_map (fun i=>if i=f t.a then f t.b else i) (bN 10) _ [c0,c1,c2,c3,.un,c5,.sh (.int t.a),.sh (.int t.b),.sh (.int (f t.a)),.sh (.int (f t.b))] (fun _ _=>rfl) GP ((Ka n).map fun(i:Nat)=>f i) .un [];have hz:(((Ka n).map fun(i:Nat)=>f i).map Dat.int).length<=SZ:=by simp[SZ];lia
 have cp:bW 4 1 (bN 10) az (eIf (tV (e2 gEq (eV 10) (eV 8))) (eV 9) (eV 10)) [c0,c1,c2,c3,.ow (lab n f),c5,.sh (.int t.a),.sh (.int t.b),.sh (.int (f t.a)),.sh (.int (f t.b))]=some (.new (lab n (mgf f t.b t.a)),[c0,c1,c2,c3,.ow (lab n f),c5,.sh (.int t.a),.sh (.int t.b),.sh (.int (f t.a)),.sh (.int (f t.b))]):=by
  unfold bW;rw[t9 n f];simp only[gV,Dk];rw[if_pos hz];have:[c0,c1,c2,c3,.ow (.lst (((Ka n).map fun(i:Nat)=>f i).map Dat.int)),c5,.sh (.int t.a),.sh (.int t.b),.sh (.int (f t.a)),.sh (.int (f t.b))].set 4 Cell.un++gc 1 Cell.un=[c0,c1,c2,c3,.un,c5,.sh (.int t.a),.sh (.int t.b),.sh (.int (f t.a)),.sh (.int (f t.b))]++[.un]:=rfl;rw[this,e];dsimp only;have e3:Dat.lst ([]++((Ka n).map fun(i:Nat)=>f i).map fun i=>Dat.int (if i=f t.a then f t.b else i))=lab n (mgf f t.b t.a):=by unfold lab mgf;rw[Jt,Kr];rfl
  rw[e3];rfl
 unfold ki;simp(config:={ decide:=true }) only[ia,ib,cp,Dm.fn,Dm.ai,Dm.sA,Dm.sR,Dm.sE,Dm.sU,Dm.sIf,Dm.sNx,Dm.bA,Dm.bB,Dm.aY,Dm.e1,Dm.e2,Dm.eB,Dm.eAs,Dm.eC,Dm.eV,Dm.a_,Dm.aW,Dm.eF,Dm.eIf,Dm.bq,Dm.bC,Dm.tV,Dm.aR,Dm.bz,Dm.tOr,Dm.az,Dm.pk,Dm.tk,Dm.pks,Dm.tks,RV.ay,RV.dat,Dm.aG,Dm.aN,Dm.aZ,Dm.aS,Dm.aX,Dm.aE,Dm.br,Dm.gLt,Dm.gLe,Dm.gGt,Dm.bu,Dm.aH,Dm.aU,Dm.aL,Dm.aQ,Dm.aO,Dm.aT,Dm.bD,Dm.isI,Dm.isB,Dm.isL,Dm.isT,Dm.vB,Dm.vI,Ds,JG,gp,Ju,Jt,Jy,gc,Dk,gV,Jx,Jv,Jw,JI,if_true,if_false,JD,Dm.iR1,Dm.iR2,Dm.iS,Dm.bN,Dm.bT,Dm.sets,reduceIte,JF,Dm.ao,JA,JB,JE,JC,true_or,or_true,true_and,and_true,decide_true,decide_false,false_or,or_false,false_and,and_false]
theorem jr(n:Nat)(hn:n<=10)(c0 c1 c2 c3:Cell):∀(ts:List Tie) (f:Int->Int) (c5 c6 c7 c8 c9:Cell),Ends n ts ->
  ∃c5' c6' c7' c8' c9',cy (bT [5,6,7]) ki (ts.map bw) [c0,c1,c2,c3,.ow (lab n f),c5,c6,c7,c8,c9]=some (.nx [c0,c1,c2,c3,.ow (lab n (dR f ts)),c5',c6',c7',c8',c9'])
 |[],f,c5,c6,c7,c8,c9,_=>⟨c5,c6,c7,c8,c9,rfl⟩
 |t::ts,f,c5,c6,c7,c8,c9,he=>by obtain⟨a0,a1,b0,b1⟩:=he t JJ;rw[Ds,cy];have hb:bT [5,6,7] (bw t) [c0,c1,c2,c3,.ow (lab n f),c5,c6,c7,c8,c9]=some [c0,c1,c2,c3,.ow (lab n f),.sh (.int t.m),.sh (.int t.a),.sh (.int t.b),c8,c9]:=rfl;rw[hb];dsimp only;rw[pX n hn f t a0 a1 b0 b1];exact jr n hn c0 c1 c2 c3 ts _ _ _ _ _ _ fun u hu=>he u (JK _ hu)
theorem A9(n:Nat)(hn:n<=10):eW [.int (n:Int)]=some (.new (lab n fun x=>x)):=by unfold eW;dsimp only;rw[if_pos (by lia),Ky,xT]
theorem vq(n:Nat)(hn:n<=10)(ts:List Tie)(he:Ends n ts)(a b:Int)(a0:0<=a)(a1:a<n)(b0:0<=b)(b1:b<n) :
  tY [.int n,av ts,.int a,.int b]=some (.val (.bl (decide (dR (fun x=>x) ts a=dR (fun x=>x) ts b)))):=by
 obtain⟨d5,d6,d7,d8,d9,e⟩:=jr n hn (.sh (.int n)) (.sh (av ts)) (.sh (.int a)) (.sh (.int b)) ts (fun x=>x) .un .un .un .un .un he;have gl:=A9 n hn;have ia:=fy n (dR (fun x=>x) ts) a a0 a1;have ib:=fy n (dR (fun x=>x) ts) b b0 b1;have it:∀c,iS (eV 1) [.sh (.int n),.sh (av ts),.sh (.int a),.sh (.int b),c,.un,.un,.un,.un,.un]=some (ts.map bw,[.sh (.int n),.sh (av ts),.sh (.int a),.sh (.int b),c,.un,.un,.un,.un,.un]):=fun c=>rfl;have sf:∀pM,ai (aY (iS (eV 1)) (bT [5,6,7]) ki) pM [.sh (.int n),.sh (av ts),.sh (.int a),.sh (.int b),.ow (lab n fun x=>x),.un,.un,.un,.un,.un]=pM [.sh (.int n),.sh (av ts),.sh (.int a),.sh (.int b),.ow (lab n (dR (fun x=>x) ts)),d5,d6,d7,d8,d9]:=fun pM=>by unfold ai aY;rw[it];dsimp only;rw[e]
 unfold tY;refine(pU (ρ:=[.sh (.int n),.sh (av ts),.sh (.int a),.sh (.int b),.un,.un,.un,.un,.un,.un]) rfl rfl).trans ?_;rw[show ∀pM,ai (sA 4 (eB eW [(eV 0)])) pM [.sh (.int n),.sh (av ts),.sh (.int a),.sh (.int b),.un,.un,.un,.un,.un,.un]=pM [.sh (.int n),.sh (av ts),.sh (.int a),.sh (.int b),.ow (lab n fun x=>x),.un,.un,.un,.un,.un] from fun pM=>by simp(config:={ decide:=true }) only[gl,Dm.fn,Dm.ai,Dm.sA,Dm.sR,Dm.sE,Dm.sU,Dm.sIf,Dm.sNx,Dm.bA,Dm.bB,Dm.aY,Dm.e1,Dm.e2,Dm.eB,Dm.eAs,Dm.eC,Dm.eV,Dm.a_,Dm.aW,Dm.eF,Dm.eIf,Dm.bq,Dm.bC,Dm.tV,Dm.aR,Dm.bz,Dm.tOr,Dm.az,Dm.pk,Dm.tk,Dm.pks,Dm.tks,RV.ay,RV.dat,Dm.aG,Dm.aN,Dm.aZ,Dm.aS,Dm.aX,Dm.aE,Dm.br,Dm.gLt,Dm.gLe,Dm.gGt,Dm.bu,Dm.aH,Dm.aU,Dm.aL,Dm.aQ,Dm.aO,Dm.aT,Dm.bD,Dm.isI,Dm.isB,Dm.isL,Dm.isT,Dm.vB,Dm.vI,Ds,JG,gp,Ju,Jt,Jy,gc,Dk,gV,Jx,Jv,Jw,JI,if_true,if_false,JD,Dm.iR1,Dm.iR2,Dm.iS,Dm.bN,Dm.bT,Dm.sets,reduceIte,JF,Dm.ao,JA,JB,JE,JC,true_or,or_true,true_and,and_true,decide_true,decide_false,false_or,or_false,false_and,and_false]];rw[sf];simp(config:={ decide:=true }) only[ia,ib,eq_int,xR,Dm.fn,Dm.ai,Dm.sA,Dm.sR,Dm.sE,Dm.sU,Dm.sIf,Dm.sNx,Dm.bA,Dm.bB,Dm.aY,Dm.e1,Dm.e2,Dm.eB,Dm.eAs,Dm.eC,Dm.eV,Dm.a_,Dm.aW,Dm.eF,Dm.eIf,Dm.bq,Dm.bC,Dm.tV,Dm.aR,Dm.bz,Dm.tOr,Dm.az,Dm.pk,Dm.tk,Dm.pks,Dm.tks,RV.ay,RV.dat,Dm.aG,Dm.aN,Dm.aZ,Dm.aS,Dm.aX,Dm.aE,Dm.br,Dm.gLt,Dm.gLe,Dm.gGt,Dm.bu,Dm.aH,Dm.aU,Dm.aL,Dm.aQ,Dm.aO,Dm.aT,Dm.bD,Dm.isI,Dm.isB,Dm.isL,Dm.isT,Dm.vB,Dm.vI,Ds,JG,gp,Ju,Jt,Jy,gc,Dk,gV,Jx,Jv,Jw,JI,if_true,if_false,JD,Dm.iR1,Dm.iR2,Dm.iS,Dm.bN,Dm.bT,Dm.sets,reduceIte,JF,Dm.ao,JA,JB,JE,JC,true_or,or_true,true_and,and_true,decide_true,decide_false,false_or,or_false,false_and,and_false]
theorem xW(r:List Tie)(s:Nat)(t:Tie)(h:r[s]?=some t):gIx (av r) (.int (s:Nat))=some (.val (bw t)):=by have hs:s<r.length:=(JH.mp h).1;unfold av gIx atI ixN;simp only[JM];rw[if_pos (by lia),if_pos (by lia)];show (((r.map bw)[(s:Int).toNat]?).map RV.val)=_;rw[Ky,JT,h];rfl
theorem Ek(N:List Int)(s:Nat)(m:Int)(h:N[s]?=some m):gIx (.lst (N.map Dat.int)) (.int (s:Nat))=some (.val (.int m)):=by have hs:s<N.length:=(JH.mp h).1;unfold gIx atI ixN;simp only[JM];rw[if_pos (by lia),if_pos (by lia)];show (((N.map Dat.int)[(s:Int).toNat]?).map RV.val)=_;rw[Ky,JT,h];rfl
theorem ee{l r:List α}{s:Nat}{x:α}(h:l.drop s=x::r):l[s]?=some x/\l.drop (s+1)=r:=by
 constructor
 ·have:=congrArg (fun z=>z[0]?) h
  simpa [LK] using this
 ·rw[show s+1=s+1 from rfl,<- Mc,h];rfl
theorem kB(r:List Tie)(N:List Int)(j:Int)(c0 c2 c4 c6:Cell):∀(rs:List Tie) (ms:List Int) (s:Nat) (c:Cell) (kM:List Dat),rs.length=ms.length->r.drop s=rs->N.drop s=ms ->
  ∃c',b7 (bN 7) (tV (e2 gEq (e2 gIx (eV 3) (eV 7)) (eV 5))) (e2 gIx (eV 1) (eV 7)) (ups (s:Nat) rs.length) [c0,.sh (av r),c2,.ow (.lst (N.map Dat.int)),c4,.sh (.int j),c6,c] kM =
   some (kM++(lay rs ms j).map bw,[c0,.sh (av r),c2,.ow (.lst (N.map Dat.int)),c4,.sh (.int j),c6,c'])
 |[],[],s,c,kM,_,_,_=>⟨c,by simp[b7,kq,A7]⟩
 |t::rs,m::ms,s,c,kM,hl,hr,hN=>by
  obtain⟨r1,r2⟩:=ee hr;obtain⟨n1,n2⟩:=ee hN;have i1:=xW r s t r1;have i2:=Ek N s m n1;rw[gp,kr,b7];have hb:bN 7 (.int (s:Nat)) [c0,.sh (av r),c2,.ow (.lst (N.map Dat.int)),c4,.sh (.int j),c6,c]=some [c0,.sh (av r),c2,.ow (.lst (N.map Dat.int)),c4,.sh (.int j),c6,.sh (.int (s:Nat))]:=rfl;rw[hb];dsimp only;have te:tV (e2 gEq (e2 gIx (eV 3) (eV 7)) (eV 5)) [c0,.sh (av r),c2,.ow (.lst (N.map Dat.int)),c4,.sh (.int j),c6,.sh (.int (s:Nat))]=some (decide (m=j),[c0,.sh (av r),c2,.ow (.lst (N.map Dat.int)),c4,.sh (.int j),c6,.sh (.int (s:Nat))]):=by simp(config:={ decide:=true }) only[i2,eq_int,Dm.fn,Dm.ai,Dm.sA,Dm.sR,Dm.sE,Dm.sU,Dm.sIf,Dm.sNx,Dm.bA,Dm.bB,Dm.aY,Dm.e1,Dm.e2,Dm.eB,Dm.eAs,Dm.eC,Dm.eV,Dm.a_,Dm.aW,Dm.eF,Dm.eIf,Dm.bq,Dm.bC,Dm.tV,Dm.aR,Dm.bz,Dm.tOr,Dm.az,Dm.pk,Dm.tk,Dm.pks,Dm.tks,RV.ay,RV.dat,Dm.aG,Dm.aN,Dm.aZ,Dm.aS,Dm.aX,Dm.aE,Dm.br,Dm.gLt,Dm.gLe,Dm.gGt,Dm.bu,Dm.aH,Dm.aU,Dm.aL,Dm.aQ,Dm.aO,Dm.aT,Dm.bD,Dm.isI,Dm.isB,Dm.isL,Dm.isT,Dm.vB,Dm.vI,Ds,JG,gp,Ju,Jt,Jy,gc,Dk,gV,Jx,Jv,Jw,JI,if_true,if_false,JD,Dm.iR1,Dm.iR2,Dm.iS,Dm.bN,Dm.bT,Dm.sets,reduceIte,JF,Dm.ao,JA,JB,JE,JC,true_or,or_true,true_and,and_true,decide_true,decide_false,false_or,or_false,false_and,and_false]
  rw[te];have cs:((s:Nat):Int)+1=((s+1:Nat):Int):=by lia
  rw[cs,fu];by_cases h:m=j
  ·rw[decide_eq_true h,if_pos h];dsimp only;have el:(e2 gIx (eV 1) (eV 7)) [c0,.sh (av r),c2,.ow (.lst (N.map Dat.int)),c4,.sh (.int j),c6,.sh (.int (s:Nat))]=some (.val (bw t),[c0,.sh (av r),c2,.ow (.lst (N.map Dat.int)),c4,.sh (.int j),c6,.sh (.int (s:Nat))]):=by simp(config:={ decide:=true }) only[i1,Dm.fn,Dm.ai,Dm.sA,Dm.sR,Dm.sE,Dm.sU,Dm.sIf,Dm.sNx,Dm.bA,Dm.bB,Dm.aY,Dm.e1,Dm.e2,Dm.eB,Dm.eAs,Dm.eC,Dm.eV,Dm.a_,Dm.aW,Dm.eF,Dm.eIf,Dm.bq,Dm.bC,Dm.tV,Dm.aR,Dm.bz,Dm.tOr,Dm.az,Dm.pk,Dm.tk,Dm.pks,Dm.tks,RV.ay,RV.dat,Dm.aG,Dm.aN,Dm.aZ,Dm.aS,Dm.aX,Dm.aE,Dm.br,Dm.gLt,Dm.gLe,Dm.gGt,Dm.bu,Dm.aH,Dm.aU,Dm.aL,Dm.aQ,Dm.aO,Dm.aT,Dm.bD,Dm.isI,Dm.isB,Dm.isL,Dm.isT,Dm.vB,Dm.vI,Ds,JG,gp,Ju,Jt,Jy,gc,Dk,gV,Jx,Jv,Jw,JI,if_true,if_false,JD,Dm.iR1,Dm.iR2,Dm.iS,Dm.bN,Dm.bT,Dm.sets,reduceIte,JF,Dm.ao,JA,JB,JE,JC,true_or,or_true,true_and,and_true,decide_true,decide_false,false_or,or_false,false_and,and_false]
   rw[el];dsimp only[tk];obtain⟨c',e⟩:=kB r N j c0 c2 c4 c6 rs ms (s+1) (.sh (.int (s:Nat))) (kM++[bw t]) (by simpa using hl) r2 n2;exact⟨c',by rw[e];simp⟩
  ·rw[decide_eq_false h,if_neg h];exact kB r N j c0 c2 c4 c6 rs ms (s+1) (.sh (.int (s:Nat))) kM (by simpa using hl) r2 n2
 |[],_::_,_,_,_,h,_,_=>by cases h
 |_::_,[],_,_,_,h,_,_=>by cases h
theorem kC(hi:Int)(n:Nat):downs hi (n+1)=Dat.int hi::downs (hi-1) n:=by
 unfold downs;rw[Lo,Ds,Kr]
 congr 1
 ·simp
 ·apply La;intro i _;simp only[Function.comp,Dat.int.injEq]
  lia
theorem A_(p:Nat)(m j:Int)(ms:List Int):(gc p (0:Int)++m::ms).set p j=gc p 0++j::ms:=by rw[K5 _ _ (by simp)];simp
theorem rL(n:Nat)(hn:n<=10)(r:List Tie)(he:Ends n r)(hl:r.length<=1000)(p:Nat)(t:Tie)(rs:List Tie)(ms:List Int)(m j:Int)(hr:r.drop p=t::rs)(hms:rs.length=ms.length)(c2 c6:Cell) :
  nT [.sh (.int n),.sh (av r),c2,.ow (.lst ((gc p 0++m::ms).map Dat.int)),.sh (.int (p:Nat)),.sh (.int j),c6] =
   some (.nx [.sh (.int n),.sh (av r),c2,.ow (.lst ((gc p 0++(if dR (fun x=>x) (lay rs ms j) t.a=dR (fun x=>x) (lay rs ms j) t.b then m else j)::ms).map Dat.int)),.sh (.int (p:Nat)),.sh (.int j),.ow (av (lay rs ms j))]):=by
 obtain⟨r1,r2⟩:=ee hr;have AY:r.length=p+1+rs.length:=by
  have:=congrArg List.length hr;rw[KC,gp]at this
  lia
 have hN:(gc p (0:Int)++m::ms).drop (p+1)=ms:=by rw[List.drop_append];simp
 obtain⟨c',ec⟩:=kB r (gc p 0++m::ms) j (.sh (.int n)) c2 (.sh (.int (p:Nat))) c6 rs ms (p+1) .un [] hms r2 hN;have cp:bS (iR2 (e2 aN (eV 4) (eC (.int 1))) (eB aU [(eV 1)])) 1 (bN 7) (tV (e2 gEq (e2 gIx (eV 3) (eV 7)) (eV 5))) (e2 gIx (eV 1) (eV 7)) [.sh (.int n),.sh (av r),c2,.ow (.lst ((gc p 0++m::ms).map Dat.int)),.sh (.int (p:Nat)),.sh (.int j),c6] =
   some (.new (av (lay rs ms j)),[.sh (.int n),.sh (av r),c2,.ow (.lst ((gc p 0++m::ms).map Dat.int)),.sh (.int (p:Nat)),.sh (.int j),c6]):=by
  have it:iR2 (e2 aN (eV 4) (eC (.int 1))) (eB aU [(eV 1)]) [.sh (.int n),.sh (av r),c2,.ow (.lst ((gc p 0++m::ms).map Dat.int)),.sh (.int (p:Nat)),.sh (.int j),c6] =
    some (ups ((p+1:Nat):Int) rs.length,[.sh (.int n),.sh (av r),c2,.ow (.lst ((gc p 0++m::ms).map Dat.int)),.sh (.int (p:Nat)),.sh (.int j),c6]):=by
   have gl:aU [av r]=some (.val (.int (r.length:Nat))):=by unfold av;simp[aU]
   have hb:(((r.length:Nat):Int)<=BIG/\-BIG<=((r.length:Nat):Int)/\((p:Nat):Int)+1<=BIG/\-BIG<=((p:Nat):Int)+1)=True:=by simp only[eq_iff_iff,iff_true];unfold BIG;lia
   have ht:(((r.length:Nat):Int)-(((p:Nat):Int)+1)).toNat=rs.length:=by lia
   have hc:((p+1:Nat):Int)=((p:Nat):Int)+1:=by lia
   rw[hc];simp(config:={ decide:=true }) only[gl,hb,ht,Dm.fn,Dm.ai,Dm.sA,Dm.sR,Dm.sE,Dm.sU,Dm.sIf,Dm.sNx,Dm.bA,Dm.bB,Dm.aY,Dm.e1,Dm.e2,Dm.eB,Dm.eAs,Dm.eC,Dm.eV,Dm.a_,Dm.aW,Dm.eF,Dm.eIf,Dm.bq,Dm.bC,Dm.tV,Dm.aR,Dm.bz,Dm.tOr,Dm.az,Dm.pk,Dm.tk,Dm.pks,Dm.tks,RV.ay,RV.dat,eK,ja,fL,fM,Dm.aZ,Dm.aS,Dm.aX,Dm.aE,Dm.br,Dm.gLt,Dm.gLe,Dm.gGt,Dm.bu,Dm.aH,Dm.aL,Dm.aQ,Dm.aO,Dm.bD,Dm.vB,Dm.vI,Ds,JG,gp,Ju,Jt,Jy,gc,Dk,gV,Jx,Jv,Jw,JI,if_true,if_false,JD,Dm.iR1,Dm.iR2,Dm.iS,Dm.bN,Dm.bT,Dm.sets,reduceIte,JF,Dm.ao,JA,JB,JE,JC,true_or,or_true,true_and,and_true,decide_true,decide_false,false_or,or_false,false_and,and_false]
  unfold bS;rw[it];dsimp only;rw[if_pos (by rw[nW];simp[SZ];lia)];have:[Cell.sh (.int n),.sh (av r),c2,.ow (.lst ((gc p 0++m::ms).map Dat.int)),.sh (.int (p:Nat)),.sh (.int j),c6]++gc 1 Cell.un=[.sh (.int n),.sh (av r),c2,.ow (.lst ((gc p 0++m::ms).map Dat.int)),.sh (.int (p:Nat)),.sh (.int j),c6,.un]:=rfl;rw[this,ec];rfl
 obtain⟨a0,a1,b0,b1⟩:=he t (KD r1);have hle:Ends n (lay rs ms j):=fun u hu=>by unfold lay at hu;obtain⟨q,hq,rfl⟩:=Kw.mp hu;have hq2:=(Lc.mp hq).1;have:q.1∈rs:=(Ld (show (q.1,q.2)∈rs.zip ms from hq2)).1;refine he q.1 ?_;rw[<- r2]at this;exact List.mem_of_mem_drop this
 have jo:=vq n hn (lay rs ms j) hle t.a t.b a0 a1 b0 b1;have i0:=xW r p t r1;have i1:gIx (bw t) (.int 1)=some (.val (.int t.a)):=rfl;have i2:gIx (bw t) (.int 2)=some (.val (.int t.b)):=rfl;have ix:ixN (r.length) ((p:Nat):Int)=some p:=by unfold ixN;rw[if_pos (by lia),if_pos (by lia)];simp
 have ln:(gc p (0:Int)++m::ms).length=r.length:=by simp;lia
 unfold nT;by_cases h:dR (fun x=>x) (lay rs ms j) t.a=dR (fun x=>x) (lay rs ms j) t.b
 ·rw[decide_eq_true h]at jo;rw[if_pos h];simp(config:={ decide:=true }) only[cp,i0,i1,i2,jo,Dm.fn,Dm.ai,Dm.sA,Dm.sR,Dm.sE,Dm.sU,Dm.sIf,Dm.sNx,Dm.bA,Dm.bB,Dm.aY,Dm.e1,Dm.e2,Dm.eB,Dm.eAs,Dm.eC,Dm.eV,Dm.a_,Dm.aW,Dm.eF,Dm.eIf,Dm.bq,Dm.bC,Dm.tV,Dm.aR,Dm.bz,Dm.tOr,Dm.az,Dm.pk,Dm.tk,Dm.pks,Dm.tks,RV.ay,RV.dat,eK,ja,fL,fM,Dm.aZ,Dm.aS,Dm.aX,Dm.aE,Dm.br,Dm.gLt,Dm.gLe,Dm.gGt,Dm.bu,Dm.aH,Dm.aL,Dm.aQ,Dm.aO,Dm.bD,Dm.vB,Dm.vI,Ds,JG,gp,Ju,Jt,Jy,gc,Dk,gV,Jx,Jv,Jw,JI,if_true,if_false,JD,Dm.iR1,Dm.iR2,Dm.iS,Dm.bN,Dm.bT,Dm.sets,reduceIte,JF,Dm.ao,JA,JB,JE,JC,true_or,or_true,true_and,and_true,decide_true,decide_false,false_or,or_false,false_and,and_false]
 ·rw[decide_eq_false h]at jo;rw[if_neg h,<- A_ p m j ms,List.map_set];simp(config:={ decide:=true }) only[cp,i0,i1,i2,jo,JM,ln,ix,Dm.fn,Dm.ai,Dm.sA,Dm.sR,Dm.sE,Dm.sU,Dm.sIf,Dm.sNx,Dm.bA,Dm.bB,Dm.aY,Dm.e1,Dm.e2,Dm.eB,Dm.eAs,Dm.eC,Dm.eV,Dm.a_,Dm.aW,Dm.eF,Dm.eIf,Dm.bq,Dm.bC,Dm.tV,Dm.aR,Dm.bz,Dm.tOr,Dm.az,Dm.pk,Dm.tk,Dm.pks,Dm.tks,RV.ay,RV.dat,eK,ja,fL,fM,Dm.aZ,Dm.aS,Dm.aX,Dm.aE,Dm.br,Dm.gLt,Dm.gLe,Dm.gGt,Dm.bu,Dm.aH,Dm.aL,Dm.aQ,Dm.aO,Dm.bD,Dm.vB,Dm.vI,Ds,JG,gp,Ju,Jt,Jy,gc,Dk,gV,Jx,Jv,Jw,JI,if_true,if_false,JD,Dm.iR1,Dm.iR2,Dm.iS,Dm.bN,Dm.bT,Dm.sets,reduceIte,JF,Dm.ao,JA,JB,JE,JC,true_or,or_true,true_and,and_true,decide_true,decide_false,false_or,or_false,false_and,and_false]
def Part(k q:Int)(rs:List Tie)(ms:List Int)(t:Tie)(m:Int):Prop:=
 (m=0/\∀j,q<j->j<=k->Con (lay rs ms j) t.a t.b)\/(q<m/\m<=k/\¬Con (lay rs ms m) t.a t.b/\∀j,q<j->j<m->Con (lay rs ms j) t.a t.b)
theorem kD(n:Nat)(hn:n<=10)(k:Int)(r:List Tie)(he:Ends n r)(hl:r.length<=1000)(p:Nat)(t:Tie)(rs:List Tie)(ms:List Int)(hr:r.drop p=t::rs)(hms:rs.length=ms.length)(c2:Cell):∀(q:Nat) (m:Int) (c5 c6:Cell),(q:Int)<=k->Part k q rs ms t m ->
  ∃m' c5' c6',cy (bN 5) nT (downs (q:Nat) q) [.sh (.int n),.sh (av r),c2,.ow (.lst ((gc p 0++m::ms).map Dat.int)),.sh (.int (p:Nat)),c5,c6] =
   some (.nx [.sh (.int n),.sh (av r),c2,.ow (.lst ((gc p 0++m'::ms).map Dat.int)),.sh (.int (p:Nat)),c5',c6'])/\Part k 0 rs ms t m'
 |0,m,c5,c6,hq,hp=>⟨m,c5,c6,rfl,hp⟩
 |q+1,m,c5,c6,hq,hp=>by
  rw[kC,cy];have hb:bN 5 (.int ((q+1:Nat):Int)) [.sh (.int n),.sh (av r),c2,.ow (.lst ((gc p 0++m::ms).map Dat.int)),.sh (.int (p:Nat)),c5,c6]=some [.sh (.int n),.sh (av r),c2,.ow (.lst ((gc p 0++m::ms).map Dat.int)),.sh (.int (p:Nat)),.sh (.int ((q+1:Nat):Int)),c6]:=rfl;rw[hb];dsimp only;rw[rL n hn r he hl p t rs ms m ((q+1:Nat):Int) hr hms];dsimp only;have e1:((q+1:Nat):Int)-1=(q:Nat):=by lia
  rw[e1];refine kD n hn k r he hl p t rs ms hr hms c2 q _ _ _ (by lia) ?_;have ji:=xS (lay rs ms ((q+1:Nat):Int)) t.a t.b;by_cases h:Con (lay rs ms ((q+1:Nat):Int)) t.a t.b
  ·rw[if_pos (ji.mpr h)];rcases hp with⟨h1,h2⟩ | ⟨h1,h2,h3,h4⟩
   ·refine .inl ⟨h1,fun j j1 j2=>?_⟩;by_cases q1:j=((q+1:Nat):Int)
    ·rw[q1];exact h
    ·exact h2 j (by lia) j2
   ·refine .inr ⟨by lia,h2,h3,fun j j1 j2=>?_⟩;by_cases q1:j=((q+1:Nat):Int)
    ·rw[q1];exact h
    ·exact h4 j (by lia) j2
  ·rw[if_neg fun z=>h (ji.mp z)];exact .inr ⟨by lia,hq,h,fun j j1 j2=>by lia⟩
theorem kE(n:Nat)(hn:n<=10)(k:Nat)(hk:k<=10)(r:List Tie)(he:Ends n r)(hl:r.length<=1000):∀(p:Nat) (ms:List Int) (c4 c5 c6:Cell),p<=r.length->b5 k (r.drop p) ms ->
  ∃ms' c4' c5' c6',cy (bN 4) kj (downs ((p:Int)-1) p) [.sh (.int n),.sh (av r),.sh (.int k),.ow (.lst ((gc p 0++ms).map Dat.int)),c4,c5,c6] =
   some (.nx [.sh (.int n),.sh (av r),.sh (.int k),.ow (.lst (ms'.map Dat.int)),c4',c5',c6'])/\b5 k r ms'
 |0,ms,c4,c5,c6,hp,ha=>⟨ms,c4,c5,c6,rfl,by simpa using ha⟩
 |p+1,ms,c4,c5,c6,hp,ha=>by
  have e0:((p+1:Nat):Int)-1=(p:Nat):=by lia
  have IV:p<r.length:=by lia
  have hr:r.drop p=r[p]::r.drop (p+1):=KP IV;rw[e0,kC,cy];have rp:gc (p+1) (0:Int)++ms=gc p 0++0::ms:=by rw[List.replicate_succ',KI];rfl
  rw[rp];have hb:bN 4 (.int ((p:Nat):Int)) [.sh (.int n),.sh (av r),.sh (.int k),.ow (.lst ((gc p 0++0::ms).map Dat.int)),c4,c5,c6]=some [.sh (.int n),.sh (av r),.sh (.int k),.ow (.lst ((gc p 0++0::ms).map Dat.int)),.sh (.int ((p:Nat):Int)),c5,c6]:=rfl;rw[hb];dsimp only;obtain⟨m',d5,d6,e,pt⟩:=kD n hn k r he hl p r[p] (r.drop (p+1)) ms hr ha.len.symm (.sh (.int k)) k 0 c5 c6 (by lia) (.inl ⟨rfl,fun j j1 j2=>by lia⟩);have hb2:((k:Int)<=BIG/\-BIG<=(k:Int))=True:=by simp only[eq_iff_iff,iff_true];unfold BIG;lia
  have kt:((k:Int)-0).toNat=k:=by lia
  have body:kj [.sh (.int n),.sh (av r),.sh (.int k),.ow (.lst ((gc p 0++0::ms).map Dat.int)),.sh (.int ((p:Nat):Int)),c5,c6]=some (.nx [.sh (.int n),.sh (av r),.sh (.int k),.ow (.lst ((gc p 0++m'::ms).map Dat.int)),.sh (.int (p:Nat)),d5,d6]):=by
   unfold kj;have it:iRd (eV 2) (eC (.int 0)) (e1 bu (eC (.int 1))) [.sh (.int n),.sh (av r),.sh (.int k),.ow (.lst ((gc p 0++0::ms).map Dat.int)),.sh (.int ((p:Nat):Int)),c5,c6]=some (downs (k:Nat) k,[.sh (.int n),.sh (av r),.sh (.int k),.ow (.lst ((gc p 0++0::ms).map Dat.int)),.sh (.int ((p:Nat):Int)),c5,c6]):=by unfold iRd;simp(config:={ decide:=true }) only[hb2,kt,Dm.fn,Dm.ai,Dm.sA,Dm.sR,Dm.sE,Dm.sU,Dm.sIf,Dm.sNx,Dm.bA,Dm.bB,Dm.aY,Dm.e1,Dm.e2,Dm.eB,Dm.eAs,Dm.eC,Dm.eV,Dm.a_,Dm.aW,Dm.eF,Dm.eIf,Dm.bq,Dm.bC,Dm.tV,Dm.aR,Dm.bz,Dm.tOr,Dm.az,Dm.pk,Dm.tk,Dm.pks,Dm.tks,RV.ay,RV.dat,eK,ja,fL,fM,Dm.aZ,Dm.aS,Dm.aX,Dm.aE,Dm.br,Dm.gLt,Dm.gLe,Dm.gGt,Dm.bu,Dm.aH,Dm.aL,Dm.aQ,Dm.aO,Dm.bD,Dm.vB,Dm.vI,Ds,JG,gp,Ju,Jt,Jy,gc,Dk,gV,Jx,Jv,Jw,JI,if_true,if_false,JD,Dm.iR1,Dm.iR2,Dm.iS,Dm.bN,Dm.bT,Dm.sets,reduceIte,JF,Dm.ao,JA,JB,JE,JC,true_or,or_true,true_and,and_true,decide_true,decide_false,false_or,or_false,false_and,and_false]
   unfold aY;rw[it];exact e
  rw[body];dsimp only;refine kE n hn k hk r he hl p (m'::ms) _ _ _ (by lia) ?_;rw[hr];exact⟨ha,pt⟩
theorem pY(n:Nat)(hn:n<=10)(k:Nat)(hk:k<=10)(r:List Tie)(he:Ends n r)(hl:r.length<=1000):∃ms:List Int,tZ [.int n,av r,.int k]=some (.new (.lst (ms.map Dat.int)))/\b5 k r ms:=by
 obtain⟨ms,c4,c5,c6,e,al⟩:=kE n hn k hk r he hl r.length [] .un .un .un (JL _) (by rw[LY];trivial);refine⟨ms,?_,al⟩;have gl:aU [av r]=some (.val (.int (r.length:Nat))):=by unfold av;simp[aU]
 have gm:aS (.lst [.int 0]) (.int ((r.length:Nat):Int))=some (.new (.lst ((gc r.length (0:Int)++[]).map Dat.int))):=by
  unfold aS;dsimp only;rw[if_pos (by unfold BIG SZ;simp;lia),Ke,List.map_replicate,Ky]
  congr 3
  induction r.length with
  |zero=>rfl
  |succ n ih=>rw[Kn,KH,ih];rfl
 have z1:(1<=SZ)=True:=by simp[SZ]
 have hb3:(((r.length:Nat):Int)-1<=BIG/\-BIG<=((r.length:Nat):Int)-1)=True:=by simp only[eq_iff_iff,iff_true];unfold BIG;lia
 have kt:(((r.length:Nat):Int)-1 - -1).toNat=r.length:=by lia
 have it:∀c,iRd (e2 aZ (eB aU [(eV 1)]) (eC (.int 1))) (e1 bu (eC (.int 1))) (e1 bu (eC (.int 1))) [.sh (.int n),.sh (av r),.sh (.int k),c,.un,.un,.un]=some (downs (((r.length:Nat):Int)-1) r.length,[.sh (.int n),.sh (av r),.sh (.int k),c,.un,.un,.un]):=fun c=>by unfold iRd;simp(config:={ decide:=true }) only[gl,hb3,kt,Dm.fn,Dm.ai,Dm.sA,Dm.sR,Dm.sE,Dm.sU,Dm.sIf,Dm.sNx,Dm.bA,Dm.bB,Dm.aY,Dm.e1,Dm.e2,Dm.eB,Dm.eAs,Dm.eC,Dm.eV,Dm.a_,Dm.aW,Dm.eF,Dm.eIf,Dm.bq,Dm.bC,Dm.tV,Dm.aR,Dm.bz,Dm.tOr,Dm.az,Dm.pk,Dm.tk,Dm.pks,Dm.tks,RV.ay,RV.dat,eK,ja,fL,fM,Dm.aZ,Dm.aS,Dm.aX,Dm.aE,Dm.br,Dm.gLt,Dm.gLe,Dm.gGt,Dm.bu,Dm.aH,Dm.aL,Dm.aQ,Dm.aO,Dm.bD,Dm.vB,Dm.vI,Ds,JG,gp,Ju,Jt,Jy,gc,Dk,gV,Jx,Jv,Jw,JI,if_true,if_false,JD,Dm.iR1,Dm.iR2,Dm.iS,Dm.bN,Dm.bT,Dm.sets,reduceIte,JF,Dm.ao,JA,JB,JE,JC,true_or,or_true,true_and,and_true,decide_true,decide_false,false_or,or_false,false_and,and_false]
 have s1:∀pM:FS,ai (sA 3 (e2 aS (aW [(eC (.int 0))]) (eB aU [(eV 1)]))) pM [.sh (.int n),.sh (av r),.sh (.int k),.un,.un,.un,.un]=pM [.sh (.int n),.sh (av r),.sh (.int k),.ow (.lst (List.map Dat.int (gc r.length (0:Int)++[]))),.un,.un,.un]:=fun pM=>by simp(config:={ decide:=true }) only[gl,z1,gm,ai,sA,e2,aW,eAs,eC,eV,eB,pks,tks,pk,tk,RV.ay,gp,Ju,Dk,gV,Jv,Jw,JF,if_true,if_false,reduceIte]
 have s2:∀pM:FS,ai (aY (iRd (e2 aZ (eB aU [(eV 1)]) (eC (.int 1))) (e1 bu (eC (.int 1))) (e1 bu (eC (.int 1)))) (bN 4) kj) pM [.sh (.int n),.sh (av r),.sh (.int k),.ow (.lst (List.map Dat.int (gc r.length (0:Int)++[]))),.un,.un,.un]=pM [.sh (.int n),.sh (av r),.sh (.int k),.ow (.lst (ms.map Dat.int)),c4,c5,c6]:=fun pM=>by unfold ai aY;rw[it];dsimp only;rw[e]
 unfold tZ;refine(pU (ρ:=[.sh (.int n),.sh (av r),.sh (.int k),.un,.un,.un,.un]) rfl rfl).trans ?_;rw[s1,s2];rfl
theorem xX(x:Int):∃k:Nat,1<=k/\k<=6/\pQ [.int x]=some (.val (.int (k:Nat))):=by
 have z2:(2<=SZ)=True:=by simp[SZ]
 have c32:(0<(32:Int)/\(32:Int)<dW)=True:=by simp[dW]
 have m4:=b8 x 4 (by decide);have m6:=b8 (x / 32) 6 (by decide);by_cases h:x % 8=1
 ·refine⟨(1+x / 32 % 6).toNat,by lia,by lia,?_⟩;have e:(((1+x / 32 % 6).toNat:Nat):Int)=1+x / 32 % 6:=by lia
  have h':(x % 8=1)=True:=by simp[h]
  have gx:∀a b:Dat,gIx (.lst [a,b]) (.int (b2i true))=some (.val b):=fun a b=>rfl;unfold pQ;rw[e];simp(config:={ decide:=true }) only[c32,z2,eq_int,h',gx,Dm.fn,Dm.ai,Dm.sA,Dm.sR,Dm.sE,Dm.sU,Dm.sIf,Dm.sNx,Dm.bA,Dm.bB,Dm.aY,Dm.e1,Dm.e2,Dm.eB,Dm.eAs,Dm.eC,Dm.eV,Dm.a_,Dm.aW,Dm.eF,Dm.eIf,Dm.bq,Dm.bC,Dm.tV,Dm.aR,Dm.bz,Dm.tOr,Dm.az,Dm.pk,Dm.tk,Dm.pks,Dm.tks,RV.ay,RV.dat,Dm.aG,Dm.aN,Dm.aZ,Dm.aS,Dm.aX,Dm.aE,Dm.br,Dm.gLt,Dm.gLe,Dm.gGt,Dm.bu,Dm.aH,Dm.aU,Dm.aL,Dm.aQ,Dm.aO,Dm.aT,Dm.bD,Dm.isI,Dm.isB,Dm.isL,Dm.isT,Dm.vB,Dm.vI,Ds,JG,gp,Ju,Jt,Jy,gc,Dk,gV,Jx,Jv,Jw,JI,if_true,if_false,JD,Dm.iR1,Dm.iR2,Dm.iS,Dm.bN,Dm.bT,Dm.sets,reduceIte,JF,Dm.ao,JA,JB,JE,JC,true_or,or_true,true_and,and_true,decide_true,decide_false,false_or,or_false,false_and,and_false]
 ·refine⟨(1+x % 4).toNat,by lia,by lia,?_⟩;have e:(((1+x % 4).toNat:Nat):Int)=1+x % 4:=by lia
  have h':(x % 8=1)=False:=by simp[h]
  have gx:∀a b:Dat,gIx (.lst [a,b]) (.int (b2i false))=some (.val a):=fun a b=>rfl;unfold pQ;rw[e];simp(config:={ decide:=true }) only[c32,z2,eq_int,h',gx,Dm.fn,Dm.ai,Dm.sA,Dm.sR,Dm.sE,Dm.sU,Dm.sIf,Dm.sNx,Dm.bA,Dm.bB,Dm.aY,Dm.e1,Dm.e2,Dm.eB,Dm.eAs,Dm.eC,Dm.eV,Dm.a_,Dm.aW,Dm.eF,Dm.eIf,Dm.bq,Dm.bC,Dm.tV,Dm.aR,Dm.bz,Dm.tOr,Dm.az,Dm.pk,Dm.tk,Dm.pks,Dm.tks,RV.ay,RV.dat,Dm.aG,Dm.aN,Dm.aZ,Dm.aS,Dm.aX,Dm.aE,Dm.br,Dm.gLt,Dm.gLe,Dm.gGt,Dm.bu,Dm.aH,Dm.aU,Dm.aL,Dm.aQ,Dm.aO,Dm.aT,Dm.bD,Dm.isI,Dm.isB,Dm.isL,Dm.isT,Dm.vB,Dm.vI,Ds,JG,gp,Ju,Jt,Jy,gc,Dk,gV,Jx,Jv,Jw,JI,if_true,if_false,JD,Dm.iR1,Dm.iR2,Dm.iS,Dm.bN,Dm.bT,Dm.sets,reduceIte,JF,Dm.ao,JA,JB,JE,JC,true_or,or_true,true_and,and_true,decide_true,decide_false,false_or,or_false,false_and,and_false]
noncomputable def di:Option Nat->Dat
 |none=>.non
 |some v=>.int v
noncomputable def rdN(w:List Nat):Option Nat:=if (1<=w.length/\w.length<=60)/\w.all dh=true/\¬(w.head?=some 48/\w≠[48]) then some (l9 w) else none
def asc(w:List Nat):Prop:=w.all (fun c=>decide (c<128))=true/\w.length<=20000
theorem nX(h:asc w)(k:Nat):okD k (.str w)=true:=by cases k<;>exact h.1
theorem eq_str(ha:asc a)(hb:asc b):gEq (.str a) (.str b)=vB (decide (a=b)):=by unfold gEq;rw[nX ha,nX hb];show vB (eqD (.str a) (.str b))=_;rw[eqD,show (a == b)=decide (a=b) by rw[Lz];simp]
theorem ne_str(ha:asc a)(hb:asc b):gNe (.str a) (.str b)=vB (!decide (a=b)):=by unfold gNe;rw[nX ha,nX hb];show vB (!eqD (.str a) (.str b))=_;rw[eqD,show (a == b)=decide (a=b) by rw[Lz];simp]
theorem Ni(ha:asc a)(hb:asc b)(k:K (.val (.bl (decide (a=b)))))(ho:o=some (.str a))(hp:p=some (.str b)):Wg2 gEq o p K:=⟨_,_,_,ho,hp,eq_str ha hb,k⟩
theorem MZ(ha:asc a)(hb:asc b)(k:K (.val (.bl (!decide (a=b)))))(ho:o=some (.str a))(hp:p=some (.str b)):Wg2 gNe o p K:=⟨_,_,_,ho,hp,ne_str ha hb,k⟩
theorem jK(h:asc b)(s:∀c∈a,c∈b)(l:a.length<=b.length):asc a:=⟨by have:=h.1;rw[JZ]at this ⊢;exact fun c hc=>this c (s c hc),JU l h.2⟩
theorem El{n:Nat}(h0:0<=k)(h1:k<n):ixN n k=some k.toNat:=by unfold ixN;rw[if_pos h0,if_pos h1]
theorem vt{g:Int}{e:FE}(he:e ρ=some (.val (.int w.length),ρ))(hg:g=60):ao gLe gLe (eC (.int 1)) e (eC (.int g)) ρ=some (.val (.bl (decide (1<=w.length/\w.length<=60))),ρ):=by
 subst hg;unfold ao;simp only[eC,he,pk,gLe];by_cases h1:1<=w.length
 ·have e1:decide ((1:Int)<=(w.length:Int))=true:=decide_eq_true (by lia);simp only[e1];by_cases h2:w.length<=60
  ·have e2:decide ((w.length:Int)<=60)=true:=decide_eq_true (by lia);rw[decide_eq_true (show 1<=w.length/\w.length<=60 from ⟨h1,h2⟩)];simp[e2];rfl
  ·have e2:decide ((w.length:Int)<=60)=false:=decide_eq_false (by lia);rw[decide_eq_false (show ¬(1<=w.length/\w.length<=60) from fun z=>h2 z.2)];simp[e2];rfl
 ·have e1:decide ((1:Int)<=(w.length:Int))=false:=decide_eq_false (by lia);rw[decide_eq_false (show ¬(1<=w.length/\w.length<=60) from fun z=>h1 z.1)];simp[e1]
theorem Ba(hw:asc w){i:Nat}(h:ρ[i]?=some (.sh (.str w))):eB mO [(eV i)] ρ=some (.val (.int w.length),ρ):=by have z:w.length<=SZ:=JU hw.2 (by decide);unfold eB eAs eV;simp only[h];unfold eAs;simp only[pks,pk];unfold mO;simp[z,RV.ay]
theorem bI(hw:asc w):cG [.str w]=some (.val (di (rdN w))):=by
 have hz:w.length<=SZ:=JU hw.2 (by decide);apply Mw;unfold cG
 (refine Dm.Mx ?_ rfl rfl;and_intros)
 refine Mq (My (MC (Mu (Mt ⟨_,_,vt (Ba hw rfl) rfl,Mn ?_⟩))));unfold rdN;by_cases h1:1<=w.length/\w.length<=60
 rotate_left
 ·rw[decide_eq_false h1,if_neg fun z=>h1 z.1];exact MF (MF (Mv (L_ rfl)))
 rw[decide_eq_true h1];refine Mz ?_;refine Mu (Mt (ME (m_ (Nu (fun c:Nat=>Dat.str [c]) w (fun c=>dh c) Dat.bl (ρ1:=[.sh (.str w)]) ?_ ?_ rfl (by decide) hz fun c _=>?_))))
 rotate_left
 ·apply M_;exact NT (K_ rfl ⟨w,rfl,hw.1,rfl,rfl⟩)
 ·refine Mm (K_ rfl (L_ (NF (c:=c) ?_ rfl rfl)));rw[Eh];exact MH ⟨rfl,rfl⟩
 refine J_ (Nc dh (xs:=w) ?_ (by rw[Kr];rfl));cases hf:w.all dh with
 |false=>refine Mn (MF (Mv (L_ ?_)));rw[if_neg (by rintro⟨_,z,_⟩;cases z)];rfl
 |true=>
  refine Mn (Mz (MA ?_));cases w with
  |nil=>exact absurd h1.1 (by simp)
  |cons c r=>
   have a1:asc [c]:=jK hw (fun x hx=>by rw[Kd.mp hx];exact JJ) (by simp);have a48:asc [48]:=⟨by decide,by decide⟩
   refine Mq (My (Nt (Mt (Mm (Mm (K_ rfl (L_ (ND (m:=0) (c:=c) ?_ rfl rfl hz (El (by lia) (by simp)) rfl))))))));refine L_ (Ni a1 a48 (Mn ?_) rfl rfl);have I0:¬((c::r).head?=some 48/\(c::r:List Nat)≠[48])->Ws (sR (eB j5 [eV 0])) [.sh (.str (c::r))] (fun _=>RV.val Dat.non=RV.val (di (if (1<=(c::r).length/\(c::r).length<=60)/\true=true/\¬((c::r).head?=some 48/\(c::r:List Nat)≠[48]) then some (l9 (c::r)) else none))) (fun v _=>v=RV.val (di (if (1<=(c::r).length/\(c::r).length<=60)/\true=true/\¬((c::r).head?=some 48/\(c::r:List Nat)≠[48]) then some (l9 (c::r)) else none))) (fun _=>False) (fun _=>False):=fun hn=>by rw[if_pos ⟨h1,rfl,hn⟩];exact Mv (ME (m_ (K_ rfl (J_ (NQ rfl rfl ⟨by simp,hf,by lia⟩)))))
   by_cases e:c=48
   ·subst e;rw[decide_eq_true rfl];refine MT rfl ?_;refine Mt (Mm (K_ rfl (L_ (MZ hw a48 (Mn ?_) rfl rfl))));by_cases e2:(48::r:List Nat)=[48]
    ·rw[decide_eq_true e2];exact MB rfl (MA (I0 fun z=>z.2 e2))
    ·rw[decide_eq_false e2];refine MT rfl (Mv (L_ ?_));rw[if_neg fun z=>z.2.2 ⟨rfl,e2⟩];rfl
   ·have:decide ([c]=[48])=false:=decide_eq_false fun z=>e (by injection z);rw[this];exact MB rfl (MB rfl (MA (I0 fun z=>e (by injection z.1))))
theorem MW{v:Nat}{o:Option (List Dat)}(k:K (.val (.str (bF v))))(ho:o=some [.int (v:Nat)])(h:v<10 ^ 60):WB dP o K:=⟨_,_,ho,by
 unfold dP;dsimp only;rw [if_pos (by
  have:(10:Nat) ^ 60<10 ^ 100:=by decide
  show v<_
  lia),mS],k⟩
theorem pZ(c:Nat):∀w:List Nat,(∀x∈(aj c w).1,x∈w)/\(aj c w).1.length<=w.length/\(∀x∈(aj c w).2.2,x∈w)/\(aj c w).2.2.length<=w.length/\((aj c w).2.1=[]->(aj c w).2.2=[])
 |[]=>⟨fun x h=>h,JL _,fun x h=>h,JL _,fun _=>rfl⟩
 |y::r=>by
  obtain⟨h1,h2,h3,h4,h5⟩:=pZ c r;rw[aj];split
  ·exact⟨fun x h=>(by cases h),J8 _,fun x h=>JK _ h,L6 _,fun z=>by cases z⟩
  ·refine⟨fun x h=>?_,by simp;lia,fun x h=>JK _ (h3 x h),by simp;lia,h5⟩;rcases JV.mp h with rfl | h
   ·exact JJ
   ·exact JK _ (h1 x h)
theorem cg(c:Nat)(h:asc w):asc (aj c w).1/\asc (aj c w).2.2:=by obtain⟨h1,h2,h3,h4,_⟩:=pZ c w;exact⟨jK h h1 h2,jK h h3 h4⟩
noncomputable def n3(w:List Nat):Option Nat×Option Nat×Option Nat:=(rdN (aj 58 w).1,rdN (aj 45 (aj 58 w).2.2).1,rdN (aj 45 (aj 58 w).2.2).2.2)
noncomputable def n3D(w:List Nat):Dat:=.tup [di (n3 w).1,di (n3 w).2.1,di (n3 w).2.2]
theorem iB(h:asc w)(c:Nat):dG w (.str [c])=some (.val (.tup [.str (aj c w).1,.str (aj c w).2.1,.str (aj c w).2.2])):=by unfold dG;dsimp only;rw[if_pos (JU h.2 (by decide))]
theorem eT(o:Option Nat):aG (di o)=false:=by cases o<;>rfl
theorem p5(hw:asc w):tS [.str w]=some (.val (n3D w)):=by
 obtain⟨a1,a2⟩:=cg 58 hw;obtain⟨b1,b2⟩:=cg 45 a2;apply Mw;unfold tS
 (refine Dm.Mx ?_ rfl rfl;and_intros)
 refine Mq (MM (MP (K_ rfl ⟨w,rfl,L_ ⟨_,_,rfl,iB hw 58,?_⟩⟩)) (by decide));refine MJ ?_ (by trivial);refine Mq (MM (MP (Mm (K_ rfl (L_ (Mr (v:=.str (aj 58 w).2.2) ⟨_,rfl,L_ ⟨_,_,rfl,iB a2 45,?_⟩⟩ rfl rfl rfl))))) (by decide));refine MJ ?_ (by trivial);refine Mv (M0 (m_ (Ms (m_ (Mm (K_ rfl (L_ (Mr (v:=.str (aj 58 w).1) ?_ rfl rfl rfl))))))));refine J_ (Mp (bI a1) ?_ rfl (eT _));refine m_ (Ms (m_ (Mm (K_ rfl (L_ (Mr (v:=.str (aj 45 (aj 58 w).2.2).1) ?_ rfl rfl rfl))))));refine J_ (Mp (bI b1) ?_ rfl (eT _));refine m_ (Ms (m_ (Mm (K_ rfl (L_ (Mr (v:=.str (aj 45 (aj 58 w).2.2).2.2) ?_ rfl rfl rfl))))));refine J_ (Mp (bI b2) ?_ rfl (eT _));exact J_ (MN rfl rfl rfl (by exact Kv rfl))
noncomputable def bR(n:Int)(w:List Nat):Option Tie:=match n3 w with
 |(some m,some a,some b)=>if (m:Int)<=Z30/\a<=b/\(b:Int)<n then some ⟨m,a,b⟩ else none
 |_=>none
noncomputable def GV:Option Tie->Dat
 |none=>.non
 |some t=>bw t
theorem rM(k:K (.val (.int Z30)))(ho:o=some (.int 10))(hp:p=some (.int 30)):Wg2 br o p K:=⟨_,_,_,ho,hp,rfl,k⟩
theorem dH(o:Option Nat)(lo hi:Int):gk [di o,.int lo,.int hi]=some (.val (.bl (match o with | none=>false | some v=>decide (lo<=(v:Int)/\(v:Int)<=hi)))):=by
 cases o with
 |none=>rfl
 |some v=>
  show gk [.int (v:Int),.int lo,.int hi]=_;have h:xO [.int (v:Int)]=some (.val (.bl true)):=rfl;by_cases h1:lo<=(v:Int)
  ·by_cases h2:(v:Int)<=hi
   ·unfold gk;simp[fn,sR,bq,eF,eAs,eV,pks,pk,h,RV.ay,RV.dat,aG,ao,gLe,h1,h2]
   ·unfold gk;simp[fn,sR,bq,eF,eAs,eV,pks,pk,h,RV.ay,RV.dat,aG,ao,gLe,h1,h2]
  ·unfold gk;simp[fn,sR,bq,eF,eAs,eV,pks,pk,h,RV.ay,RV.dat,aG,ao,gLe,h1]
noncomputable def steps(S:List Int):Bool:=(Ka (S.length-1)).all fun i=>decide (S.getD i 0<S.getD (i+1) 0)
theorem mV:∀S:List Int,steps S=true↔S.Pairwise (· < ·)
 |[]=>by simp[steps]
 |[x]=>by simp[steps]
 |x::y::S=>by
  have ih:=mV (y::S);have e:steps (x::y::S)=(decide (x<y)&&steps (y::S)):=by unfold steps;simp only[gp,Nat.add_sub_cancel];rw[Lo,LP,Mh];rfl
  rw[e,JY,ih,LN (a:=x)];constructor
  ·rintro⟨h1,h2⟩;have h1:=of_decide_eq_true h1;refine⟨fun z hz=>?_,h2⟩;rcases JV.mp hz with rfl | hz
   ·exact h1
   ·exact Int.lt_trans h1 ((LN.mp h2).1 z hz)
  ·rintro⟨h1,h2⟩;exact⟨decide_eq_true (h1 y JJ),h2⟩
theorem Em{AW:α->Dat}{xs:List α}{i:Int}(h0:0<=i)(h1:i<xs.length)(k:K (.val (AW (xs[i.toNat]'(by omega)))))(ho:o=some (.tup (xs.map AW)))(hp:p=some (.int i)):Wg2 gIx o p K:=
 ⟨_,_,_,ho,hp,by unfold gIx;dsimp only;rw[Dm.jJ AW xs i h0 h1];rfl,k⟩
theorem xY(d:Dat)(S:List Int)(hl:S.length<=1000)(hd:d=.tup (S.map Dat.int)\/d=.lst (S.map Dat.int)):A3 [d]=some (.val (.bl (steps S))):=by
 have len:aU [d]=some (.val (.int (S.length:Nat))):=by
  rcases hd with rfl | rfl
  ·show some (RV.val (.int ((S.map Dat.int).length:Nat)))=_;rw[JM]
  ·show some (RV.val (.int ((S.map Dat.int).length:Nat)))=_;rw[JM]
 have ix:∀(i:Int) (h0:0<=i) (h1:i<S.length) {o p:Option Dat} {K:RV->Prop},K (.val (.int (S[i.toNat]'(by lia))))->o=some d->p=some (.int i)->Wg2 gIx o p K:=fun i h0 h1 {o p K} k ho hp=>by
  rcases hd with rfl | rfl
  ·exact Em (xs:=S) (AW:=Dat.int) h0 h1 k ho hp
  ·exact Nf (xs:=S) (AW:=Dat.int) h0 h1 k ho hp
 apply Mw;unfold A3
 (refine Dm.Mx ?_ rfl rfl;and_intros)
 refine Mv (ME (m_ ?_));refine M1 (fun i:Nat=>Dat.int (1+(i:Nat))) (Ka (S.length-1)) (fun _=>true) (fun i=>Dat.bl (decide (S.getD i 0<S.getD (i+1) 0))) ?_ (ρ1:=[.sh d]) ?_ rfl (by decide) (by simp[SZ];lia) (fun i _=>?_) (fun i hi _=>?_)
 ·refine J_ (Nc (fun i=>decide (S.getD i 0<S.getD (i+1) 0)) ?_ (by rw[Lb.mpr (fun _ _=>rfl)];rfl));rfl
 ·apply M_;refine NB (L_ (l_.mk (ME (m_ (K_ rfl (J_ ⟨_,_,rfl,len,?_⟩))))));refine l_.mk ⟨⟨?_,rfl⟩,by unfold BIG;lia,by unfold BIG;lia,by unfold BIG;lia,by unfold BIG;lia⟩;have e2:(((S.length:Nat):Int)-1).toNat=S.length-1:=by lia
  rw[e2];rfl
 ·exact Na ⟨rfl,rfl⟩
 ·have hi':i<S.length-1:=LF.mp hi;refine Mm (Mm (K_ rfl (Mm (K_ rfl (L_ (MX (ix _ (by lia) (by lia) ?_ rfl rfl) rfl rfl))))));refine Mm (K_ rfl (K_ rfl (ix _ (by lia) (by lia) ?_ rfl rfl)));refine Nx (MH ⟨?_,rfl⟩) rfl rfl;have e1:S.getD i 0=S[(1+(i:Int)-1).toNat]'(by omega):=by
   rw[Kg,JX (by lia)];simp only[Option.getD_some]
   congr 1;lia
  have e2:S.getD (i+1) 0=S[(1+(i:Int)).toNat]'(by lia):=by
   rw[Kg,JX (by lia)];simp only[Option.getD_some]
   congr 1;lia
  rw[e1,e2]
noncomputable def inM:Option Nat->Bool
 |none=>false
 |some v=>decide (0<=(v:Int)/\(v:Int)<=Z30)
noncomputable def inP(n:Int):Option Nat->Bool
 |none=>false
 |some v=>decide (0<=(v:Int)/\(v:Int)<=n-1)
theorem xZ(o:Option Nat):A0 [di o]=some (.val (.bl (inM o))):=by
 apply Mw;unfold A0
 (refine Dm.Mx ?_ rfl rfl;and_intros)
 refine Mv (Ms (m_ (K_ rfl (m_ (L_ (m_ (Mm (L_ (L_ (rM ?_ rfl rfl))))))))));refine J_ (Mp (dH o 0 Z30) ?_ rfl rfl);cases o<;>rfl
theorem t_(n:Int)(o:Option Nat):xP [.int n,di o]=some (.val (.bl (inP n o))):=by
 apply Mw;unfold xP
 (refine Dm.Mx ?_ rfl rfl;and_intros)
 refine Mv (Ms (m_ (K_ rfl (m_ (L_ (m_ (Mm (K_ rfl (L_ (MX ?_ rfl rfl))))))))));refine J_ (Mp (dH o 0 (n-1)) ?_ rfl rfl);cases o<;>rfl
theorem x6(n1:1<=n)(n10:n<=10):rG [.int n]=some (.val (.bl true)):=by
 have h:=dH (some n.toNat) 1 10;have e:((n.toNat:Nat):Int)=n:=by lia
 have h:gk [.int n,.int 1,.int 10]=some (.val (.bl true)):=by
  have h2:gk [di (some n.toNat),.int 1,.int 10]=some (.val (.bl true)):=by rw[h];show some (RV.val (.bl (decide _)))=_;rw[decide_eq_true (by lia)]
  have h3:gk [.int ((n.toNat:Nat):Int),.int 1,.int 10]=some (.val (.bl true)):=h2;rw[e]at h3;exact h3
 apply Mw;unfold rG
 (refine Dm.Mx ?_ rfl rfl;and_intros)
 exact Mv (Ms (m_ (K_ rfl (m_ (L_ (m_ (L_ (J_ (Mp h rfl rfl rfl))))))))) 
theorem x8(n:Int)(w:List Nat):A1 [.int n,n3D w]=some (.val (.bl (inM (n3 w).1&&(inP n (n3 w).2.1&&inP n (n3 w).2.2)))):=by
 apply Mw;unfold A1
 (refine Dm.Mx ?_ rfl rfl;and_intros)
 refine Mq (My (MC (Mu (Mt (ML (K_ rfl (MG (v:=.val (.bl true)) (Mn (Mz ?_)) rfl rfl)))))));refine Mt (Mm (ME (m_ (K_ rfl (J_ ⟨_,_,rfl,(show aU [n3D w]=some (.val (.int 3)) from rfl),?_⟩)))));refine L_ (MU (Mn ?_) rfl rfl);rw[show (!decide ((3:Int)=3))=false from rfl];refine Mz (MA ?_);refine Mv (MQ (Ms (m_ (Mm (K_ rfl (L_ (Mr (v:=di (n3 w).1) ?_ rfl rfl rfl)))))));refine J_ (Mp (xZ _) (Mn ?_) rfl rfl);cases h1:inM (n3 w).1 with
 |false=>exact Mz rfl
 |true=>
  refine MF ?_;refine MQ (Ms (m_ (K_ rfl (m_ (Mm (K_ rfl (L_ (Mr (v:=di (n3 w).2.1) ?_ rfl rfl rfl))))))));refine J_ (Mp (t_ n _) (Mn ?_) rfl rfl);cases h2:inP n (n3 w).2.1 with
  |false=>exact Mz rfl
  |true=>refine MF ?_;refine Ms (m_ (K_ rfl (m_ (Mm (K_ rfl (L_ (Mr (v:=di (n3 w).2.2) ?_ rfl rfl rfl)))))));exact J_ (Mp (t_ n _) rfl rfl rfl)
theorem gv(h:bR n w=some t):n3D w=bw t/\inM (n3 w).1=true/\inP n (n3 w).2.1=true/\inP n (n3 w).2.2=true/\0<=t.m/\t.m<=Z30/\0<=t.a/\t.a<=t.b/\t.b<n:=by
 unfold bR at h;unfold n3D;split at h
 ·rename_i m a b e;split at h
  ·rename_i q;cases h;rw[e];dsimp only;refine⟨rfl,decide_eq_true (by lia),decide_eq_true (by lia),decide_eq_true (by lia),by lia,q.1,by lia,by lia,q.2.2⟩
  ·cases h
 ·cases h
theorem x9(n:Int)(w:List Nat):A2 [.int n,n3D w]=some (.val (.bl (bR n w).isSome)):=by
 apply Mw;unfold A2
 (refine Dm.Mx ?_ rfl rfl;and_intros)
 refine Mv (MQ (Ms (m_ (K_ rfl (m_ (K_ rfl (J_ (Mp (x8 n w) (Mn ?_) rfl rfl))))))));cases h:(inM (n3 w).1&&(inP n (n3 w).2.1&&inP n (n3 w).2.2)) with
 |false=>
  refine Mz ?_;cases ht:bR n w with
  |none=>rfl
  |some t=>obtain⟨_,h1,h2,h3,_⟩:=gv ht;rw[h1,h2,h3]at h;cases h
 |true=>
  refine MF ?_;rw[JY,JY]at h;obtain⟨h1,h2,h3⟩:=h;cases e1:(n3 w).1 with
  |none=>rw[e1]at h1;cases h1
  |some m=>
   cases e2:(n3 w).2.1 with
   |none=>rw[e2]at h2;cases h2
   |some a=>
    cases e3:(n3 w).2.2 with
    |none=>rw[e3]at h3;cases h3
    |some b=>
     rw[e1]at h1;rw[e2]at h2;rw[e3]at h3;have h1:=of_decide_eq_true h1;have h2:=of_decide_eq_true h2;have h3:=of_decide_eq_true h3;have en:n3 w=(some m,some a,some b):=by rw[<- e1,<- e2,<- e3]
     unfold n3D;rw[en];refine Mm (Mm (K_ rfl (L_ (Mr (v:=.int a) ?_ rfl rfl rfl))));refine Mm (K_ rfl (L_ (Mr (v:=.int b) ?_ rfl rfl rfl)));refine Nq ?_ rfl rfl;unfold bR;rw[en];dsimp only;by_cases q:a<=b
     ·rw[if_pos ⟨h1.2,q,by lia⟩,decide_eq_true (by lia)];rfl
     ·rw[if_neg fun z=>q z.2.1,decide_eq_false (by lia)];rfl
noncomputable def gw(n:Int)(ws:List (List Nat)):Option (List Tie):=if ws.length<=60/\(∀w∈ws,(bR n w).isSome=true)/\steps ((ws.filterMap (bR n)).map (·.m))=true then some (ws.filterMap (bR n)) else none
theorem all_some:∀{ws:List (List Nat)},(∀w∈ws,(bR n w).isSome=true)->ws.map n3D=(ws.filterMap (bR n)).map bw/\ws.map (fun w=>GV (bR n w))=(ws.filterMap (bR n)).map bw
 |[],_=>⟨rfl,rfl⟩
 |w::ws,h=>by
  obtain⟨h1,h2⟩:=all_some fun x hx=>h x (JK _ hx);have hw:=h w JJ;cases ht:bR n w with
  |none=>rw[ht]at hw;cases hw
  |some t=>rw[KS,ht];dsimp only;rw[Ds,Ds,Ds,h1,h2,ht,(gv ht).1];exact⟨rfl,rfl⟩
theorem jt(n1:1<=n)(n10:n<=10)(ws:List (List Nat))(hl:ws.length<=30000):fY [.int n,.lst (ws.map n3D)]=some (.val (.bl (gw n ws).isSome)):=by
 apply Mw;unfold fY
 (refine Dm.Mx ?_ rfl rfl;and_intros)
 refine Mq (My (MC (Mu (Mt (Ms (m_ (K_ rfl (J_ (Mp (x6 n1 n10) (Mn (Mz ?_)) rfl rfl)))))))));refine MC (Mu (Mt (ML (K_ rfl (MG (v:=.val (.bl true)) (Mn (Mz ?_)) rfl rfl)))));refine Mt (Mm (ME (m_ (K_ rfl (J_ (M5 (AW:=n3D) (xs:=ws) ?_ rfl))))));refine L_ (Nb (Mn ?_) rfl rfl);unfold gw;by_cases h1:ws.length<=60
 rotate_left
 ·rw[decide_eq_true (by lia),if_neg fun z=>h1 z.1];exact MT rfl (Mv (L_ rfl))
 rw[decide_eq_false (by lia)];refine MB rfl (MA ?_);refine Mq (My (Mu (Mt (ME (m_ (Nk n3D ws (fun w=>(bR n w).isSome) Dat.bl (d:=.lst (ws.map n3D)) ?_ rfl rfl rfl (by decide) (JU hl (by decide)) fun w hw=>?_))))))
 rotate_left
 ·exact Ms (m_ (K_ rfl (m_ (K_ rfl (J_ (Mp (x9 n w) (MH ⟨rfl,rfl⟩) rfl rfl))))))
 refine J_ (Nc (fun w=>(bR n w).isSome) (xs:=ws) ?_ (by rw[Kr];rfl));by_cases h2:∀w∈ws,(bR n w).isSome=true
 rotate_left
 ·have:(ws.all fun w=>(bR n w).isSome)=false:=by
   rw[Bool.eq_false_iff];intro z;exact h2 (JZ.mp z)
  rw[this,if_neg fun z=>h2 z.2.1];exact Mn (MF (Mv (L_ rfl)))
 rw[JZ.mpr h2];refine Mn (Mz (MA ?_));obtain⟨e1,_⟩:=all_some h2;have hts:(ws.filterMap (bR n)).length<=60:=JU (List.length_filterMap_le _ _) h1;rw[e1];refine Mv (Ms (m_ (Nk bw (ws.filterMap (bR n)) (·.m) Dat.int (d:=av (ws.filterMap (bR n))) ?_ rfl rfl rfl (by decide) (JU hts (by decide)) fun t ht=>?_)))
 ·refine J_ (Mp (xY _ ((ws.filterMap (bR n)).map (·.m)) (by rw[JM];lia) (.inr rfl)) ?_ rfl rfl);cases h3:steps ((ws.filterMap (bR n)).map (·.m)) with
  |true=>rw[if_pos ⟨h1,h2,rfl⟩];rfl
  |false=>rw[if_neg fun z=>by cases z.2.2];rfl
 ·exact Mm (K_ rfl (L_ (Mr (v:=.int t.m) (MH ⟨rfl,rfl⟩) rfl rfl rfl)))
noncomputable def ju:List Nat:=[110,111,110,101]
theorem x_:asc ju:=⟨by decide,by decide⟩
noncomputable def pieces(s:List Nat):List (List Nat):=aJ 59 32 [] s
theorem fN(c d:Nat):∀(s kM:List Nat),(∀p∈aJ c d kM s,(∀x∈p,x∈kM\/x∈s)/\p.length<=kM.length+s.length)/\(aJ c d kM s).length<=s.length+1
 |[],kM=>by rw[aJ];exact⟨fun p hp=>by rw[Kd.mp hp];exact⟨fun x h=>.inl h,by simp⟩,by simp⟩
 |[x],kM=>by
  rw[aJ];refine⟨fun p hp=>?_,by simp⟩;rw[Kd.mp hp];refine⟨fun y h=>?_,by simp⟩;rcases Ks.mp h with h | h
  ·exact .inl h
  ·exact .inr h
 |x::y::r,kM=>by
  rw[aJ];split
  ·obtain⟨h1,h2⟩:=fN c d r [];refine⟨fun p hp=>?_,by simp;lia⟩;rcases JV.mp hp with rfl | hp
   ·exact⟨fun z h=>.inl h,by simp⟩
   ·obtain⟨g1,g2⟩:=h1 p hp;refine⟨fun z h=>?_,by simp at g2 ⊢;lia⟩;rcases g1 z h with q | q
    ·cases q
    ·exact .inr (JK _ (JK _ q))
  ·obtain⟨h1,h2⟩:=fN c d (y::r) (kM++[x]);refine⟨fun p hp=>?_,by simp at h2 ⊢;lia⟩;obtain⟨g1,g2⟩:=h1 p hp;refine⟨fun z h=>?_,by simp at g2 ⊢;lia⟩;rcases g1 z h with q | q
   ·rcases Ks.mp q with q | q
    ·exact .inl q
    ·rw[Kd.mp q];exact .inr JJ
   ·exact .inr (JK _ q)
 termination_by s=>s.length
theorem rN(h:asc s):∀p∈pieces s,asc p:=fun p hp=>by obtain⟨h1,_⟩:=fN 59 32 s [];obtain⟨g1,g2⟩:=h1 p hp;exact jK h (fun x hx=>(g1 x hx).resolve_left (by simp)) (by simpa using g2)
theorem kF(s:List Nat):(pieces s).length<=s.length+1:=(fN 59 32 s []).2
theorem vv(h:asc s):i7 s (.str [59,32])=some (.new (.lst ((pieces s).map .str))):=by unfold i7;dsimp only;rw[if_pos ⟨JU h.2 (by decide),by decide,by decide⟩];rfl
theorem nY(h:asc s):eX [.str s]=some (.new (.lst (if s=ju then [] else (pieces s).map n3D))):=by
 have hp:=kF s;have hs:=h.2;apply Mw;unfold eX
 (refine Dm.Mx ?_ rfl rfl;and_intros)
 refine Mq (My (Mt (Mm (K_ rfl (L_ (Ni h x_ (Mn ?_) rfl rfl))))));refine Nh (fun e=>?_) fun e=>MA ?_
 ·rw[if_pos e];exact Mv (M7 (J_ (MN rfl rfl rfl (by decide))))
 ·rw[if_neg e];refine Mv (Nu Dat.str (pieces s) n3D id (ρ1:=[.sh (.str s)]) ?_ ?_ rfl (by decide) (by unfold SZ;lia) fun p hp=>?_)
  ·rw[Mi];rfl
  ·apply M_;exact Nz (MP (K_ rfl ⟨s,rfl,L_ ⟨_,_,rfl,vv h,M9 (nQ ⟨rfl,rfl⟩)⟩⟩))
  ·exact Ms (m_ (K_ rfl (J_ (MK (p5 (rN h p hp)) (MH ⟨rfl,rfl⟩) rfl rfl rfl rfl))))
noncomputable def kG(n:Int)(s:List Nat):Option (List Tie):=if s=ju then some [] else gw n (pieces s)
end
section
variable{n:Int}(n1:1<=n)(n10:n<=10){s:List Nat}(h:asc s)
theorem kH{ws:List (List Nat)}{r:List Tie}(e:gw n ws=some r):ws.map n3D=r.map bw/\ws.map (fun w=>GV (bR n w))=r.map bw:=by
 unfold gw at e;split at e
 ·rename_i q;cases e;exact all_some q.2.1
 ·cases e
theorem ya:gw n []=some []:=by unfold gw;rw[if_pos ⟨by simp,by simp,rfl⟩];rfl
noncomputable def rdL(s:List Nat):List (List Nat):=if s=ju then [] else pieces s
theorem nZ(h:asc s):(rdL s).length<=20001:=by
 unfold rdL;split
 ·simp
 ·have:=kF s;have:=h.2
  lia
theorem kI(h:asc s):eX [.str s]=some (.new (.lst ((rdL s).map n3D))):=by rw[nY h];unfold rdL;split<;>rfl
theorem n5:gw n (rdL s)=kG n s:=by
 unfold rdL kG;split
 ·exact ya
 ·rfl
theorem vz(n1:1<=n)(n10:n<=10)(h:asc s){r:List Tie}(e:kG n s=some r):pP [.int n,.str s]=some (.new (av r)):=by
 have hb:fY [.int n,.lst ((rdL s).map n3D)]=some (.val (.bl true)):=by rw[jt n1 n10 (rdL s) (JU (nZ h) (by decide)),n5,e];rfl
 have hev:(rdL s).map n3D=r.map bw:=by rw[<- n5]at e;exact(kH e).1
 apply Mw;unfold pP
 (refine Dm.Mx ?_ rfl rfl;and_intros)
 refine Mq (MM (Ms (m_ (K_ rfl (J_ (MK (kI h) ?_ rfl rfl rfl rfl))))) (by decide));refine MR ?_ (by trivial);refine Mq (My (Mu (Mt (Ms (m_ (K_ rfl (m_ (MI rfl (J_ (Mp hb (Mn (Mz (MA ?_))) rfl rfl))))))))));refine Mv (MI rfl (Nd ?_ rfl));rw[hev];rfl
end
section
variable{r:List Tie}{n:Int}{ws:List (List Nat)}{w:List Nat}{Q:Val->Env->Prop}{ρ ρ1:Env}{t:Tie}{k:Nat}{it:FI}
noncomputable def cC(t:Tie):List Nat:=bF t.m.toNat++[58]++bF t.a.toNat++[45]++bF t.b.toNat
noncomputable def textOf(r:List Tie):List Nat:=if r=[] then ju else bY [59,32] (r.map cC)
theorem textOf_nil:textOf []=ju:=rfl
theorem textOf_cons(t:Tie)(r:List Tie):textOf (t::r)=bY [59,32] ((t::r).map cC):=by unfold textOf;rw[if_neg (by simp)]
theorem fO(y s:List Nat):bY y [s]=s:=rfl
theorem dm(y s z:List Nat)(r:List (List Nat)):bY y (s::z::r)=s++y++bY y (z::r):=by rw[bY];intro h;cases h
theorem fB(c d:Nat)(pM:List Nat):∀(s kM:List Nat),c∉s->aJ c d kM (s++c::d::pM)=(kM++s)::aJ c d [] pM
 |[],kM,_=>by rw[Jt,aJ,if_pos ⟨rfl,rfl⟩,Ke]
 |[x],kM,h=>by have hx:x≠c:=fun z=>h (by rw[z];exact JJ);show aJ c d kM (x::c::(d::pM))=_;rw[aJ,if_neg fun z=>hx z.1];have:=fB c d pM [] (kM++[x]) (by simp);rw[Jt,Ke]at this;exact this
 |x::y::s,kM,h=>by have hx:x≠c:=fun z=>h (by rw[z];exact JJ);show aJ c d kM (x::y::(s++c::d::pM))=_;rw[aJ,if_neg fun z=>hx z.1];have:=fB c d pM (y::s) (kM++[x]) (fun z=>h (JK _ z));rw[KI]at this;exact this
theorem kJ(c d:Nat):∀(s kM:List Nat),c∉s->aJ c d kM s=[kM++s]
 |[],kM,_=>by rw[aJ,Ke]
 |[x],kM,_=>by rw[aJ]
 |x::y::s,kM,h=>by have hx:x≠c:=fun z=>h (by rw[z];exact JJ);rw[aJ,if_neg fun z=>hx z.1,kJ c d (y::s) (kM++[x]) fun z=>h (JK _ z)];simp
theorem gy:∀(s:List Nat) (ss:List (List Nat)),(∀p∈s::ss,59∉p)->pieces (bY [59,32] (s::ss))=s::ss
 |s,[],h=>by unfold pieces;rw[fO,kJ 59 32 s [] (h s JJ)];rfl
 |s,z::ss,h=>by have ih:=gy z ss fun p hp=>h p (JK _ hp);unfold pieces at ih ⊢;rw[dm,KI];show aJ 59 32 [] (s++59::32::bY [59,32] (z::ss))=_;rw[fB 59 32 _ s [] (h s JJ),ih];rfl
theorem jL(c:Nat)(b:List Nat):∀a:List Nat,c∉a->aj c (a++c::b)=(a,[c],b)
 |[],_=>by rw[Jt,aj,if_pos rfl]
 |x::a,h=>by have hx:x≠c:=fun z=>h (by rw[z];exact JJ);rw[Jy,aj,if_neg hx,jL c b a fun z=>h (JK _ z)]
theorem iC{v c:Nat}(h:c<48\/57<c):c∉bF v:=fun z=>by
 have:=(eH c).mp (JZ.mp (fm v) c z)
 lia
theorem cW{v:Nat}(h:v<10 ^ 60):rdN (bF v)=some v:=by unfold rdN;have:=nR v;rw[if_pos ⟨⟨List.length_pos_iff.mpr this,bP (by decide) h⟩,fm v,fun z=>z.2 (vj z.1)⟩,pN]
structure TOk(n:Int)(t:Tie):Prop where
 m0:0<=t.m
 m1:t.m<=Z30
 a0:0<=t.a
 ab:t.a<=t.b
 bn:t.b<n
theorem TOk.small(n10:n<=10)(h:TOk n t):t.m.toNat<10 ^ 60/\t.a.toNat<10 ^ 60/\t.b.toNat<10 ^ 60:=by
 obtain⟨h1,h2,h3,h4,h5⟩:=h;have e:(10:Nat) ^ 60=1000000000000000000000000000000000000000000000000000000000000:=by decide
 unfold Z30 at h2;rw[e]
 lia
theorem yb(A B:List Nat)(m a:Nat)(hA:58∉A):n3 (A++[58]++bF a++[45]++B)=(rdN A,rdN (bF a),rdN B):=by
 unfold n3;have e1:aj 58 (A++[58]++bF a++[45]++B)=(A,[58],bF a++45::B):=by
  have:=jL 58 (bF a++45::B) A hA;rw[<- this]
  congr 1
  simp
 rw[e1];dsimp only;rw[jL 45 B (bF a) (iC (.inl (by decide)))]
theorem kK(n10:n<=10)(h:TOk n t):bR n (cC t)=some t:=by
 obtain⟨s1,s2,s3⟩:=h.small n10;unfold bR cC;rw[yb (bF t.m.toNat) (bF t.b.toNat) 0 t.a.toNat (iC (.inr (by decide))),cW s1,cW s2,cW s3];dsimp only;obtain⟨h1,h2,h3,h4,h5⟩:=h;rw[if_pos ⟨by lia,by lia,by lia⟩]
 congr 1
 cases t;dsimp only at *
 congr 1<;>lia
theorem GW(t:Tie):59∉cC t:=by
 unfold cC;simp only[Ks,Kd];have d:∀v,59∉bF v:=fun v=>iC (.inr (by decide));rintro((((h | h) | h) | h) | h)
 ·exact d _ h
 ·cases h
 ·exact d _ h
 ·cases h
 ·exact d _ h
theorem yc(h:w∈ws)(e:bR n w=none):gw n ws=none:=by unfold gw;rw[if_neg];rintro⟨_,z,_⟩;have:=z w h;rw[e]at this;cases this
theorem yd(v:Nat):∃c r,bF v=c::r/\48<=c/\c<=57:=by
 cases e:bF v with
 |nil=>exact absurd e (nR v)
 |cons c r=>exact⟨c,r,rfl,(eH c).mp (JZ.mp (fm v) c (by rw[e];exact JJ))⟩
theorem vA(s:List Nat)(ss:List (List Nat)):∃q,bY [59,32] (s::ss)=s++q:=by
 cases ss with
 |nil=>exact⟨[],by rw[fO];simp⟩
 |cons a ss=>exact⟨_,by rw[dm,KI]⟩
theorem text_head(t:Tie)(r:List Tie)(z:List Nat):bY [59,32] ((t::r).map cC)++z≠ju:=by
 obtain⟨q,e⟩:=vA (cC t) (r.map cC);obtain⟨c,k,e2,h1,h2⟩:=yd t.m.toNat;rw[Ds,e];unfold cC ju;rw[e2];intro h;injection h with h _
 lia
theorem dI(n10:n<=10):∀{r:List Tie},(∀t∈r,TOk n t)->(r.map cC).filterMap (bR n)=r
 |[],_=>rfl
 |t::r,h=>by rw[Ds,KS,kK n10 (h t JJ)];dsimp only;rw[dI n10 fun u hu=>h u (JK _ hu)]
theorem ua(n10:n<=10)(h:∀t∈r,TOk n t)(up:(r.map (·.m)).Pairwise (· < ·))(hl:r.length<=60):kG n (textOf r)=some r:=by
 unfold kG;cases r with
 |nil=>rw[textOf_nil,if_pos rfl]
 |cons t r=>
  rw[textOf_cons,if_neg (by have:=text_head t r [];rw[Ke]at this;exact this)];have e:pieces (bY [59,32] ((t::r).map cC))=(t::r).map cC:=gy (cC t) (r.map cC) fun p hp=>by obtain⟨u,_,rfl⟩:=Kw.mp (show p∈(t::r).map cC from hp);exact GW u
  rw[e];unfold gw;rw[if_pos]
  ·rw[dI n10 h]
  ·refine⟨by rw[JM];exact hl,fun w hw=>?_,?_⟩
   ·obtain⟨u,hu,rfl⟩:=Kw.mp hw;rw[kK n10 (h u hu)];rfl
   ·rw[dI n10 h];exact(mV _).mpr up
theorem Nj{i:Int}{o:Option (List Dat)}{K:RV->Prop}(h0:0<=i)(h:i.toNat<10 ^ 60)(k:K (.val (.str (bF i.toNat))))(ho:o=some [.int i]):WB dP o K:=MW k (by rw[ho,Int.toNat_of_nonneg h0]) h
theorem mW:∀ss:List (List Nat),iy (ss.map Dat.str)=some ss
 |[]=>rfl
 |s::ss=>by rw[Ds,iy,mW ss];rfl
theorem kL(y:List Nat)(ss:List (List Nat))(h:(ss.map fun s=>s.length+y.length).sum<=SZ):jn y (.lst (ss.map Dat.str))=some (.val (.str (bY y ss))):=by unfold jn;dsimp only;rw[mW];dsimp only;rw[if_pos h]
theorem p6(y:List Nat):∀ss:List (List Nat),(bY y ss).length<=(ss.map fun s=>s.length+y.length).sum
 |[]=>by simp[bY]
 |[s]=>by rw[fO];simp
 |s::z::ss=>by
  have:=p6 y (z::ss);rw[dm,Ds,Lp,JO,JO]
  lia
def lo(w:List Nat):Prop:=∀c∈w,c<128
theorem ef{a b:List Nat}(ha:lo a)(hb:lo b):lo (a++b):=fun c hc=>(Ks.mp hc).elim (ha c) (hb c)
theorem ye(h:lo w)(hl:w.length<=20000):asc w:=⟨JZ.mpr fun c hc=>decide_eq_true (h c hc),hl⟩
theorem uc{y:List Nat}(hy:lo y):∀{ss:List (List Nat)},(∀s∈ss,lo s)->lo (bY y ss)
 |[],_=>fun c hc=>by cases hc
 |[s],h=>h s JJ
 |s::z::ss,h=>by rw[dm];exact ef (ef (h s JJ) hy) (uc hy fun x hx=>h x (JK _ hx))
theorem iD(v:Nat):lo (bF v):=fun c hc=>by
 have:=(eH c).mp (JZ.mp (fm v) c hc)
 lia
theorem jb(h:w.all (fun c=>decide (c<128))=true):lo w:=fun c hc=>of_decide_eq_true (JZ.mp h c hc)
theorem Bb(t:Tie):lo (cC t):=ef (ef (ef (ef (iD _) (jb rfl)) (iD _)) (jb rfl)) (iD _)
theorem yf(n10:n<=10)(h:TOk n t):(cC t).length<=182:=by
 obtain⟨s1,s2,s3⟩:=h.small n10;have h1:=bP (by decide) s1;have h2:=bP (by decide) s2;have h3:=bP (by decide) s3;unfold cC;simp only[JO,Lr]
 lia
theorem yg{α:Type}(f:α->Nat)(k:Nat):∀l:List α,(∀x∈l,f x<=k)->(l.map f).sum<=l.length*k
 |[],_=>by simp
 |x::l,h=>by
  have:=yg f k l fun y hy=>h y (JK _ hy);have:=h x JJ;rw[Ds,Lp,gp,Nat.succ_mul]
  lia
theorem text_sum(n10:n<=10)(h:∀t∈r,TOk n t):((r.map cC).map fun s=>s.length+[59,32].length).sum<=r.length*184:=by
 have:=yg (fun s:List Nat=>s.length+[59,32].length) 184 (r.map cC) fun s hs=>by
  obtain⟨t,ht,rfl⟩:=Kw.mp hs;have:=yf n10 (h t ht);show _+2<=_
  lia
 rw[JM]at this;exact this
theorem text_lo(n10:n<=10)(h:∀t∈r,TOk n t)(hl:r.length<=60):lo (textOf r)/\(textOf r).length<=11040:=by
 unfold textOf;split
 ·exact⟨jb rfl,by decide⟩
 ·have:=text_sum n10 h;have:=p6 [59,32] (r.map cC);exact ⟨uc (jb rfl) fun s hs=>by obtain⟨t,_,rfl⟩:=Kw.mp hs;exact Bb t,by lia⟩
theorem jv(n10:n<=10)(h:∀t∈r,TOk n t)(hl:r.length<=60):pR [av r]=some (.val (.str (textOf r))):=by
 have ok:okD 8 (av r)=true:=BR bw r fun t=>rfl;apply Mw;unfold pR
 (refine Dm.Mx ?_ rfl rfl;and_intros)
 refine Mq (My (Mt (Mm (K_ rfl (M7 (J_ (MN (Nr (xs:=r.map bw) (Mn ?_) rfl rfl ok) rfl rfl (by decide))))))));cases r with
 |nil=>exact MT rfl (Mv (L_ rfl))
 |cons t0 r0=>
  refine MB rfl (MA ?_);rw[textOf_cons]
  generalize hr:t0::r0=r at *
  have sm:=text_sum n10 h;refine Mv (MP (L_ ⟨_,rfl,Nk bw r cC Dat.str (d:=av r) ?_ rfl rfl rfl (by decide) (by unfold SZ;lia) fun t ht=>?_⟩))
  ·exact⟨_,_,rfl,kL _ _ (by unfold SZ;lia),rfl⟩
  ·have tk:=h t ht;obtain⟨s1,s2,s3⟩:=tk.small n10;have d1:=bP (by decide) s1;have d2:=bP (by decide) s2;have d3:=bP (by decide) s3;have sz:SZ=100000:=rfl;refine Mm (Mm (Mm (Mm (ME (m_ (Mm (K_ rfl (L_ (Mr (v:=.int t.m) ?_ rfl rfl rfl)))))))));refine J_ (Nj tk.m0 s1 ?_ rfl);refine L_ (MO ?_ rfl rfl (by simp;lia));refine ME (m_ (Mm (K_ rfl (L_ (Mr (v:=.int t.a) ?_ rfl rfl rfl)))));refine J_ (Nj tk.a0 s2 ?_ rfl);refine MO ?_ rfl rfl (by simp;lia);refine L_ (MO ?_ rfl rfl (by simp;lia));refine ME (m_ (Mm (K_ rfl (L_ (Mr (v:=.int t.b) ?_ rfl rfl rfl)))));refine J_ (Nj (LA tk.a0 tk.ab) s3 ?_ rfl);refine MO ?_ rfl rfl (by simp;lia);exact MH ⟨rfl,rfl⟩
noncomputable def keep(r:List Tie)(ms:List Int):List Tie:=((r.zip ms).filter fun p=>decide (0<p.2)).map (·.1)
theorem jd(t:Tie)(m:Int)(r:List Tie)(ms:List Int):keep (t::r) (m::ms)=if 0<m then t::keep r ms else keep r ms:=by unfold keep;rw[LM,List.filter_cons];by_cases h:0<m<;>simp[h]
noncomputable def zE(x:Tie×Int):Dat:=.tup [bw x.1,.int x.2]
theorem ud:∀(r:List Tie) (ms:List Int),fR (r.map bw) (ms.map Dat.int)=(r.zip ms).map zE
 |[],_=>by simp[fR]
 |_::_,[]=>by simp[fR]
 |t::r,m::ms=>by rw[Ds,Ds,fR,ud r ms,LM,Ds];rfl
theorem NN(r:List Tie)(ms:List Int)(p:Tie×Int->Bool){t:FT}(q:Q (.new (av (((r.zip ms).filter p).map (·.1)))) ρ1)(GR:it ρ=some (fR (r.map bw) (ms.map Dat.int),ρ1))(hk:ρ1.length=k)(hk0:k≠0)(hl:r.length<=SZ)
  (ht:∀x:Tie×Int,Wt t (ρ1++[.sh (bw x.1),.sh (.int x.2)]) fun c ρ'=>c=p x/\ρ'=ρ1++[.sh (bw x.1),.sh (.int x.2)]):We (bS it 2 (bT [k,k+1]) t (eV k)) ρ Q:=by
 have b:∀(x:Tie×Int) (c1 c2:Cell),bT [k,k+1] (zE x) (ρ1++[c1,c2])=some (ρ1++[.sh (bw x.1),.sh (.int x.2)]):=fun x c1 c2=>by show sets [k,k+1] [bw x.1,.int x.2] _=_;rw[sets,if_neg hk0,sets,if_neg (by lia),sets];rw[K5 _ _ (by lia),K5 _ _ (by lia)];subst hk;rw[Nat.sub_self,show ρ1.length+1-ρ1.length=1 by lia];rfl
 refine NC zE (r.zip ms) p (fun x=>x.1) bw (fun x=>(ρ1++[Cell.sh (bw x.1),Cell.sh (.int x.2)]:Env)) (own:=2) (bd:=bT [k,k+1]) (Q:=Q) q (by rw[GR,ud]) (fun x=>b x .un .un) (fun x y=>b x (.sh (bw y.1)) (.sh (.int y.2))) (fun x=>Me) (by rw[List.length_zip];lia) (fun x _=>ht x) (fun x _ _=>?_);refine K_ (d:=bw x.1) ?_ (MH ⟨rfl,rfl⟩);rw[J5 (by lia),hk,Nat.sub_self];rfl
theorem yh(r:List Tie):eqD (av r) (av r)=true:=by
 unfold av;rw[eqD]
 induction r with
 |nil=>rfl
 |cons b bs ih=>rw[Ds,iM,ih];simp[bw,eqD,iM]
theorem Eo(r:List Tie):okD 8 (av r)=true:=BR bw r fun t=>rfl
theorem MV{d:Dat}{o p:Option Dat}{Q:RV->Prop}(hk:okD 8 d=true)(he:eqD d d=true)(k:Q (.val (.bl false)))(ho:o=some d)(hp:p=some d):Wg2 gNe o p Q:=
 ⟨_,_,_,ho,hp,by unfold gNe;rw[hk,he];rfl,k⟩
theorem vC(r:List Tie)(ms:List Int)(q:Q (.new (av (keep r ms))) ρ1)(GR:it ρ=some (fR (r.map bw) (ms.map Dat.int),ρ1))(hk:ρ1.length=k)(hk0:k≠0)(hl:r.length<=SZ):We (bS it 2 (bT [k,k+1]) (tV (e2 gGt (eV (k+1)) (eC (.int 0)))) (eV k)) ρ Q:=by refine NN r ms (fun p=>decide (0<p.2)) q GR hk hk0 hl fun x=>?_;refine Mt (Mm (K_ (d:=.int x.2) ?_ (L_ (Nb (Mn ⟨rfl,rfl⟩) rfl rfl))));rw[J5 (by lia),hk];simp
theorem rO(k:Nat):∀r:List Tie,∃(gs:List (Int->Int)) (ms:List Int),nU k gs r ms/\b5 k r ms
 |[]=>⟨_,[],Ej k,trivial⟩
 |t::r=>by obtain⟨gs,ms,h1,h2⟩:=rO k r;exact⟨_,_,h1.step t,h2,h1.num t⟩
noncomputable def nmb(k:Nat)(r:List Tie):List Int:=Classical.choose (Lv (rO k r))
theorem jM(k:Nat)(r:List Tie):b5 k r (nmb k r):=(Lv (Lv (rO k r))).2
theorem ue(a b c:Dat)(h:kc [b]=some (.val (.bl false))):cF [.tup [a,b,c]]=some (.val (.bl false)):=by
 apply Mw;unfold cF
 (refine Dm.Mx ?_ rfl rfl;and_intros)
 refine Mq (My (MC (Mu (Mt (ML (K_ rfl (MG (v:=.val (.bl true)) (Mn (Mz ?_)) rfl rfl)))))));refine Mt (Mm (ME (m_ (K_ rfl (J_ (M4 ?_ rfl))))));refine L_ (MU (Mn ?_) rfl rfl);refine MB rfl (MA ?_);refine Mq (My (MC (Mu (Mt (Ms (m_ (Mm (K_ rfl (L_ (Mr (v:=b) ?_ rfl rfl rfl))))))))));refine J_ (Mp h (Mn (MF (MF ?_))) rfl rfl);exact Mv (L_ rfl)
theorem n6(a b c:Dat)(hb:kc [b]=some (.val (.bl true)))(h:fY [a,c]=some (.val (.bl false))):cF [.tup [a,b,c]]=some (.val (.bl false)):=by
 apply Mw;unfold cF
 (refine Dm.Mx ?_ rfl rfl;and_intros)
 refine Mq (My (MC (Mu (Mt (ML (K_ rfl (MG (v:=.val (.bl true)) (Mn (Mz ?_)) rfl rfl)))))));refine Mt (Mm (ME (m_ (K_ rfl (J_ (M4 ?_ rfl))))));refine L_ (MU (Mn ?_) rfl rfl);refine MB rfl (MA ?_);refine Mq (My (MC (Mu (Mt (Ms (m_ (Mm (K_ rfl (L_ (Mr (v:=b) ?_ rfl rfl rfl))))))))));refine J_ (Mp hb (Mn (Mz ?_)) rfl rfl);refine Mu (Mt (Ms (m_ (Mm (K_ rfl (L_ (Mr (v:=a) ?_ rfl rfl rfl)))))));refine m_ (Mm (K_ rfl (L_ (Mr (v:=c) ?_ rfl rfl rfl))));refine J_ (Mp h (Mn (MF ?_)) rfl rfl);exact Mv (L_ rfl)
theorem kN(a c:Dat)(h:rG [a]=some (.val (.bl false))):fY [a,c]=some (.val (.bl false)):=by
 apply Mw;unfold fY
 (refine Dm.Mx ?_ rfl rfl;and_intros)
 refine Mq (My (MC (Mu (Mt (Ms (m_ (K_ rfl (J_ (Mp h (Mn (MF (MF ?_))) rfl rfl)))))))));exact Mv (L_ rfl)
theorem yi{ms:List Int}(h:t∈keep r ms):t∈r:=by unfold keep at h;obtain⟨p,hp,rfl⟩:=Kw.mp h;exact(Ld (Lc.mp hp).1).1
theorem iE:∀(r:List Tie) (ms:List Int),(keep r ms).Sublist r
 |[],ms=>by unfold keep;exact List.Sublist.refl _
 |t::r,[]=>by unfold keep;simp
 |t::r,m::ms=>by
  rw[jd];split
  ·exact(iE r ms).cons₂ t
  ·exact(iE r ms).cons t
theorem kO(o:Option Nat):kc [di o]=some (.val (.bl (match o with | none=>false | some v=>decide (1<=(v:Int)/\(v:Int)<=6)))):=by
 apply Mw;unfold kc
 (refine Dm.Mx ?_ rfl rfl;and_intros)
 refine Mv (Ms (m_ (K_ rfl (m_ (L_ (m_ (L_ (J_ (Mp (dH o 1 6) ?_ rfl rfl)))))))));cases o<;>rfl
theorem rP(o:Option Nat):rG [di o]=some (.val (.bl (match o with | none=>false | some v=>decide (1<=(v:Int)/\(v:Int)<=10)))):=by
 apply Mw;unfold rG
 (refine Dm.Mx ?_ rfl rfl;and_intros)
 refine Mv (Ms (m_ (K_ rfl (m_ (L_ (m_ (L_ (J_ (Mp (dH o 1 10) ?_ rfl rfl)))))))));cases o<;>rfl
noncomputable def p7(o1 o2:Option Nat)(ws:List (List Nat)):Option (Nat×Nat×List Tie):=match o1,o2 with
 | some n,some k=>if (1≤k∧k≤6)∧1≤n∧n≤10 then (match gw n ws with
  |some r=>if (0:Int)∈nmb k r then none else some (n,k,r)
  |none=>none) else none
 |_,_=>none
theorem yj(e:gw n ws=some r):(∀t∈r,TOk n t)/\r.length<=60:=by
 unfold gw at e;split at e
 ·rename_i q;cases e;refine⟨fun t ht=>?_,JU (List.length_filterMap_le _ _) q.1⟩;obtain⟨w,hw,e⟩:=LI.mp ht;obtain⟨_,_,_,_,h1,h2,h3,h4,h5⟩:=gv e;exact⟨h1,h2,h3,h4,h5⟩
 ·cases e
theorem yk(n k:Nat)(n1:1<=n)(n10:n<=10)(k1:1<=k)(k6:k<=6)(r:List Tie)(hr:Ends n r)(hl:r.length<=60)(h:fY [.int (n:Nat),av r]=some (.val (.bl true))):cF [.tup [.int (n:Nat),.int (k:Nat),av r]]=some (.val (.bl (decide ((0:Int)∉nmb k r)))):=by
 obtain⟨ms,el,al⟩:=rK n k n10 k1 k6 r hr (by lia);rw[al.uniq (jM k r)]at el;have hb:kc [.int (k:Nat)]=some (.val (.bl true)):=by have:=kO (some k);show kc [di (some k)]=_;rw[this];show some (RV.val (.bl (decide _)))=_;rw[decide_eq_true (by lia)]
 apply Mw;unfold cF
 (refine Dm.Mx ?_ rfl rfl;and_intros)
 refine Mq (My (MC (Mu (Mt (ML (K_ rfl (MG (v:=.val (.bl true)) (Mn (Mz ?_)) rfl rfl)))))));refine Mt (Mm (ME (m_ (K_ rfl (J_ (M4 ?_ rfl))))));refine L_ (MU (Mn ?_) rfl rfl);refine MB rfl (MA ?_);refine Mq (My (MC (Mu (Mt (Ms (m_ (Mm (K_ rfl (L_ (Mr (v:=.int (k:Nat)) ?_ rfl rfl rfl))))))))));refine J_ (Mp hb (Mn (Mz ?_)) rfl rfl);refine Mu (Mt (Ms (m_ (Mm (K_ rfl (L_ (Mr (v:=.int (n:Nat)) ?_ rfl rfl rfl)))))));refine m_ (Mm (K_ rfl (L_ (Mr (v:=av r) ?_ rfl rfl rfl))));refine J_ (Mp h (Mn (Mz (MA ?_))) rfl rfl);refine Mv (Mm (L_ (Ms (m_ (Mm (K_ rfl (L_ (Mr (v:=.int (n:Nat)) ?_ rfl rfl rfl))))))));refine m_ (Mm (K_ rfl (L_ (Mr (v:=av r) ?_ rfl rfl rfl))));refine m_ (Mm (K_ rfl (L_ (Mr (v:=.int (k:Nat)) ?_ rfl rfl rfl))));refine J_ (MK el ?_ rfl rfl rfl rfl);refine NK (xs:=nmb k r) ?_ rfl rfl;refine Nn (congrArg (fun b=>RV.val (Dat.bl b)) ?_);simp
theorem p8(o1 o2:Option Nat)(ws:List (List Nat))(hl:ws.length<=30000):cF [.tup [di o1,di o2,.lst (ws.map n3D)]]=some (.val (.bl (p7 o1 o2 ws).isSome)):=by
 have l2:=kO o2;have l1:=rP o1;cases o2 with
 |none=>rw[ue _ _ _ l2];cases o1<;>rfl
 |some k=>
  dsimp only at l2;by_cases hk:1<=k/\k<=6
  rotate_left
  ·rw[decide_eq_false (by lia)]at l2;rw[ue _ _ _ l2];unfold p7;cases o1 with
   |none=>rfl
   |some n=>dsimp only;rw[if_neg fun z=>hk z.1];rfl
  rw[decide_eq_true (by lia)]at l2;cases o1 with
  |none=>rw[n6 _ _ _ l2 (kN _ _ l1)];rfl
  |some n=>
   dsimp only at l1;unfold p7;dsimp only;by_cases hn:1<=n/\n<=10
   rotate_left
   ·rw[decide_eq_false (by lia)]at l1;rw[n6 _ _ _ l2 (kN _ _ l1),if_neg fun z=>hn z.2];rfl
   rw[if_pos ⟨hk,hn⟩];have hb:=jt (n:=(n:Int)) (by lia) (by lia) ws hl;cases e:gw n ws with
   |none=>rw[e]at hb;exact n6 (di (some n)) _ _ l2 hb
   |some r=>
    rw[e]at hb;obtain⟨h1,h2⟩:=yj e;have hev:=(kH e).1;rw[hev]at hb ⊢;have q:=yk n k hn.1 hn.2 hk.1 hk.2 r (fun t ht=>by obtain⟨q1,q2,q3,q4,q5⟩:=h1 t ht;exact⟨q3,by lia,by lia,q5⟩) h2 hb;refine(show cF [.tup [.int (n:Nat),.int (k:Nat),av r]]=_ from q).trans ?_;dsimp only;by_cases z:(0:Int)∈nmb k r
    ·rw[if_pos z,decide_eq_false fun y=>y z];rfl
    ·rw[if_neg z,decide_eq_true z];rfl
theorem Nl{s:FS}(h:Ws s ρ (fun ρ'=>ρ'=ρ1) (fun _ _=>False) (fun _=>False) (fun _=>False)):s ρ=some (.nx ρ1):=by
 obtain⟨o,e,q⟩:=h;cases o with
 |nx ρ=>rw[e];exact congrArg (fun r=>some (Out.nx r)) q
 |ret _ _=>exact q.elim
 |bk _=>exact q.elim
 |ct _=>exact q.elim
end
section
variable{w:List Nat}
noncomputable def pt(c:Nat)(w:List Nat):Dat:=.tup [.str (aj c w).1,.str (aj c w).2.1,.str (aj c w).2.2]
noncomputable def nw(w:List Nat):Dat:=.tup [di (rdN (aj 32 w).1),di (rdN (aj 32 (aj 32 w).2.2).1),.lst ((rdL (aj 32 (aj 32 w).2.2).2.2).map n3D)]
noncomputable def fZ(w:List Nat):Option (Nat×Nat×List Tie):=p7 (rdN (aj 32 w).1) (rdN (aj 32 (aj 32 w).2.2).1) (rdL (aj 32 (aj 32 w).2.2).2.2)
theorem rn1(h:asc w):sA 1 (eS2 dG (eV 0) (eC (.str [32]))) [.sh (.str w),.un,.un,.un]=some (.nx [.sh (.str w),.sh (pt 32 w),.un,.un]):=by refine Nl (MM (MP (K_ rfl ⟨w,rfl,L_ ⟨_,_,rfl,iB h 32,?_⟩⟩)) (by decide));exact MJ rfl (by trivial)
theorem rn2(h:asc w):sA 2 (eS2 dG (e2 gIx (eV 1) (eC (.int 2))) (eC (.str [32]))) [.sh (.str w),.sh (pt 32 w),.un,.un]=some (.nx [.sh (.str w),.sh (pt 32 w),.sh (pt 32 (aj 32 w).2.2),.un]):=by refine Nl (MM (MP (Mm (K_ rfl (L_ (Mr (v:=.str (aj 32 w).2.2) ⟨_,rfl,L_ ⟨_,_,rfl,iB (cg 32 h).2 32,?_⟩⟩ rfl rfl rfl))))) (by decide));exact MJ rfl (by trivial)
theorem rn3(h:asc w):sA 3 (a_ [(eF cG [(e2 gIx (eV 1) (eC (.int 0)))]),(eF cG [(e2 gIx (eV 2) (eC (.int 0)))]),(eF eX [(e2 gIx (eV 2) (eC (.int 2)))])]) [.sh (.str w),.sh (pt 32 w),.sh (pt 32 (aj 32 w).2.2),.un]=some (.nx [.sh (.str w),.sh (pt 32 w),.sh (pt 32 (aj 32 w).2.2),.sh (nw w)]):=by obtain⟨a1,a2⟩:=cg 32 h;obtain⟨b1,b2⟩:=cg 32 a2;refine Nl (MM (M0 (m_ (Ms (m_ (Mm (K_ rfl (L_ (Mr (v:=.str (aj 32 w).1) ?_ rfl rfl rfl)))))))) (by decide));refine J_ (Mp (bI a1) ?_ rfl (eT _));refine m_ (Ms (m_ (Mm (K_ rfl (L_ (Mr (v:=.str (aj 32 (aj 32 w).2.2).1) ?_ rfl rfl rfl))))));refine J_ (Mp (bI b1) ?_ rfl (eT _));refine m_ (Ms (m_ (Mm (K_ rfl (L_ (Mr (v:=.str (aj 32 (aj 32 w).2.2).2.2) ?_ rfl rfl rfl))))));refine J_ (MK (kI b2) ?_ rfl rfl rfl rfl);exact J_ (MN (MJ rfl (by trivial)) rfl rfl (by exact Kv rfl))
theorem rn4(h:asc w):aR (tV (eF cF [(eV 3)])) [.sh (.str w),.sh (pt 32 w),.sh (pt 32 (aj 32 w).2.2),.sh (nw w)]=some (!(fZ w).isSome,[.sh (.str w),.sh (pt 32 w),.sh (pt 32 (aj 32 w).2.2),.sh (nw w)]):=by
 have b2:=(cg 32 (cg 32 h).2).2;have hb:cF [nw w]=some (.val (.bl (fZ w).isSome)):=p8 _ _ _ (JU (nZ b2) (by decide));have:Wt (aR (tV (eF cF [(eV 3)]))) [.sh (.str w),.sh (pt 32 w),.sh (pt 32 (aj 32 w).2.2),.sh (nw w)] (fun c ρ=>c=(!(fZ w).isSome)/\ρ=[.sh (.str w),.sh (pt 32 w),.sh (pt 32 (aj 32 w).2.2),.sh (nw w)]):=by exact Mu (Mt (Ms (m_ (K_ rfl (J_ (Mp hb (Mn ⟨rfl,rfl⟩) rfl rfl))))))
 obtain⟨c,ρ,h1,rfl,rfl⟩:=this;exact h1
noncomputable def nvD:Option (Nat×Nat×List Tie)->Dat
 |some (n,k,r)=>.tup [.int (n:Nat),.int (k:Nat),av r]
 |none=>.non
theorem kQ{o1 o2:Option Nat}{ws:List (List Nat)}{x:Nat×Nat×List Tie}(e:p7 o1 o2 ws=some x):Dat.tup [di o1,di o2,.lst (ws.map n3D)]=nvD (some x):=by
 unfold p7 at e;split at e
 ·split at e
  ·split at e
   ·split at e
    ·cases e
    ·rename_i q _;cases e;rw[(kH q).1];rfl
   ·cases e
  ·cases e
 ·cases e
theorem mh(h:asc w){x:Nat×Nat×List Tie}(e:fZ w=some x):tT [.str w]=some (.val (nvD (some x))):=by
 have hev:nw w=nvD (some x):=kQ e;have q:=rn4 h;rw[e]at q;have z:(ai (sA 1 (eS2 dG (eV 0) (eC (.str [32])))) (ai (sA 2 (eS2 dG (e2 gIx (eV 1) (eC (.int 2))) (eC (.str [32])))) (ai (sA 3 (a_ [(eF cG [(e2 gIx (eV 1) (eC (.int 0)))]),(eF cG [(e2 gIx (eV 2) (eC (.int 0)))]),(eF eX [(e2 gIx (eV 2) (eC (.int 2)))])])) (ai (sIf (aR (tV (eF cF [(eV 3)]))) (fun _=>none) sNx) (sR (eV 3)))))) [.sh (.str w),.un,.un,.un]=some (.ret (.val (nvD (some x))) [.sh (.str w),.sh (pt 32 w),.sh (pt 32 (aj 32 w).2.2),.sh (nw w)]):=by unfold ai;rw[rn1 h];dsimp only;rw[rn2 h];dsimp only;rw[rn3 h];dsimp only;unfold sIf;rw[q,hev];rfl
 unfold tT fn;dsimp only[List.map,gc,Jy,Jt,List.length];rw[if_pos rfl,z]
end
section
variable{r:List Tie}{R:RV->Env->Prop}{B C:Env->Prop}{n:Int}{ρ:Env}{N:Env->Prop}{Q:Val->Env->Prop}{d:Dat}{t:Tie}{i:Nat}{s:FS}
theorem uf(n:Nat)(s:List Nat):aj 32 (bF n++32::s)=(bF n,[32],s):=jL 32 s (bF n) (iC (.inl (by decide)))
noncomputable def tx3(n k:Nat)(s:List Nat):List Nat:=bF n++[32]++bF k++[32]++s
theorem Ep(n k:Nat)(s:List Nat):tx3 n k s=bF n++32::(bF k++32::s):=by unfold tx3;simp
theorem rQ{n k:Nat}(hn:n<10 ^ 60)(hk:k<10 ^ 60)(s:List Nat):fZ (tx3 n k s)=p7 (some n) (some k) (rdL s):=by rw[Ep];unfold fZ;rw[uf];dsimp only;rw[uf];dsimp only;rw[cW hn,cW hk]
theorem fP{n:Nat}(h:n<=100):n<10 ^ 60:=Nat.lt_of_le_of_lt h (by decide)
noncomputable def due(n k:Nat)(r:List Tie):Option (Nat×Nat×List Tie):=if (1<=k/\k<=6)/\1<=n/\n<=10 then (if ∀t∈r,t.b<(n:Int) then (if (0:Int)∈nmb k r then none else some (n,k,r)) else none) else none
theorem vD{N:Int}(N10:N<=10)(h:∀t∈r,TOk N t)(ht:t∈r)(hb:¬t.b<n):kG n (textOf r)=none:=by
 unfold kG;cases r with
 |nil=>cases ht
 |cons u r=>
  rw[textOf_cons,if_neg (by have:=text_head u r [];rw[Ke]at this;exact this)];have e:pieces (bY [59,32] ((u::r).map cC))=(u::r).map cC:=gy (cC u) (r.map cC) fun p hp=>by obtain⟨u,_,rfl⟩:=Kw.mp (show p∈(u::r).map cC from hp);exact GW u
  rw[e];refine yc (Kw.mpr ⟨t,ht,rfl⟩) ?_;obtain⟨s1,s2,s3⟩:=(h t ht).small N10;obtain⟨h1,h2,h3,h4,h5⟩:=h t ht;unfold bR cC;rw[yb (bF t.m.toNat) (bF t.b.toNat) 0 t.a.toNat (iC (.inr (by decide))),cW s1,cW s2,cW s3];dsimp only;rw[if_neg]
  lia
theorem ym{N:Int}(N10:N<=10)(h:∀t∈r,TOk N t)(up:(r.map (·.m)).Pairwise (· < ·))(hl:r.length<=60){n k:Nat}(hn:n<=100)(hk:k<=100):fZ (tx3 n k (textOf r))=due n k r:=by
 rw[rQ (fP hn) (fP hk)];unfold p7 due;dsimp only;by_cases q:(1<=k/\k<=6)/\1<=n/\n<=10
 rotate_left
 ·rw[if_neg q,if_neg q]
 rw[if_pos q,if_pos q,n5];by_cases z:∀t∈r,t.b<(n:Int)
 ·rw [if_pos z,ua (n:=(n:Int)) (by lia) (fun t ht=>by obtain⟨h1,h2,h3,h4,h5⟩:=h t ht;exact⟨h1,h2,h3,h4,z t ht⟩) up hl]
 ·rw[if_neg z];obtain⟨t,ht,hb⟩:∃t∈r,¬t.b<(n:Int):=by
   apply Classical.byContradiction;intro y;exact z fun t ht=>Classical.byContradiction fun x=>y ⟨t,ht,x⟩
  rw[vD N10 h ht hb]
theorem p9:∀(r:List Tie) (ms:List Int) (j:Int),1<=j->lay (keep r ms) (ms.filter fun m=>decide (0<m)) j=lay r ms j\/r.length≠ms.length
 |[],[],_,_=>.inl rfl
 |[],_::_,_,_=>.inr (by simp)
 |_::_,[],_,_=>.inr (by simp)
 |t::r,m::ms,j,hj=>by
  rcases p9 r ms j hj with ih | ih
  ·left;rw[jd,fu];by_cases h:0<m
   ·rw[if_pos h,KW (by simpa using h),fu,ih]
   ·rw[if_neg h,KY (by simpa using h),ih,if_neg (by lia)]
  ·right
   simpa using ih
theorem p_{k:Int}:∀{r:List Tie} {ms:List Int},b5 k r ms->b5 k (keep r ms) (ms.filter fun m=>decide (0<m))
 |[],[],_=>trivial
 |t::r,m::ms,h=>by
  have ih:=p_ h.1;rw[jd];by_cases q:0<m
  ·rw[if_pos q,KW (by simpa using q)];refine⟨ih,?_⟩;have e:∀j,1<=j->lay (keep r ms) (ms.filter fun m=>decide (0<m)) j=lay r ms j:=fun j hj=>by
    rcases p9 r ms j hj with z | z
    ·exact z
    ·exact absurd h.1.len.symm z
   rcases h.2 with⟨h0,_⟩ | ⟨h1,h2,h3,h4⟩
   ·lia
   ·exact .inr ⟨h1,h2,by rw[e m h1];exact h3,fun j j1 j2=>by rw[e j j1];exact h4 j j1 j2⟩
  ·rw[if_neg q,KY (by simpa using q)];exact ih
 |[],_::_,h=>h.elim
 |_::_,[],h=>h.elim
theorem yo{k:Nat}(r:List Tie):(0:Int)∉nmb k (keep r (nmb k r)):=by have h:=p_ (jM k r);rw[(jM k (keep r (nmb k r))).uniq h];intro z;have:=(Lc.mp z).2;simp at this
theorem eL{f:FE}{r:List FE}{kM s:List Nat}(h:f ρ=some (.val (.str s),ρ))(hl:kM.length+s.length<=SZ):pK (f::r) kM ρ=pK r (kM++s) ρ:=by rw[pK,h];dsimp only;rw[if_pos hl]
theorem rR{v:Int}(h:ρ[i]?=some (.sh (.int v)))(h0:0<=v)(hv:v.toNat<10 ^ 60):e1 jD (eV i) ρ=some (.val (.str (bF v.toNat)),ρ):=by
 have e:jD (.int v)=some (.val (.str (bF v.toNat))):=by have b:v.natAbs<10 ^ 100:=JS (by lia:v.natAbs<10 ^ 60) (by decide);unfold jD;dsimp only;rw[if_pos b,<- mS v.toNat,Int.toNat_of_nonneg h0]
 refine MY (ML (K_ h (MG (v:=.val (.str (bF v.toNat))) ⟨rfl,rfl⟩ rfl e)))
theorem Er(n10:n<=10)(h:TOk n t)(c:Cell):eJS [(e1 jD (eV 1)),(eC (.str [58])),(e1 jD (eV 2)),(eC (.str [45])),(e1 jD (eV 3))] [c,.sh (.int t.m),.sh (.int t.a),.sh (.int t.b)]=some (.val (.str (cC t)),[c,.sh (.int t.m),.sh (.int t.a),.sh (.int t.b)]):=by obtain⟨s1,s2,s3⟩:=h.small n10;have d1:=bP (by decide) s1;have d2:=bP (by decide) s2;have d3:=bP (by decide) s3;have sz:SZ=100000:=rfl;unfold eJS;rw[eL (rR rfl h.m0 s1) (by simp only[JO,gp,Ju];lia),eL (s:=[58]) rfl (by simp only[JO,gp,Ju];lia),eL (rR rfl h.a0 s2) (by simp only[JO,gp,Ju];lia),eL (s:=[45]) rfl (by simp only[JO,gp,Ju];lia),eL (rR rfl (LA h.a0 h.ab) s3) (by simp only[JO,gp,Ju];lia)];rfl
theorem NS{i own:Nat}{bd:FB}{t:FT}{el:FE}(h:ρ[i]?=some (.sh d))(w:We (bS (iS (eV i)) own bd t el) ρ Q):We (bW i own bd t el) ρ Q:=by unfold We at *;rw[mU h];exact w
theorem fC(n10:n<=10)(h:∀t∈r,TOk n t)(hl:r.length<=60):mT [av r]=some (.val (.str (textOf r))):=by
 apply Mw;unfold mT
 (refine Dm.Mx ?_ rfl rfl;and_intros)
 refine Mq (My (Mt (Mm (ME (m_ (K_ rfl (J_ (M5 (AW:=bw) (xs:=r) ?_ rfl))))))));refine L_ (M6 (Mn ?_) rfl rfl);cases r with
 |nil=>exact MT rfl (Mv (L_ rfl))
 |cons t0 r0=>
  refine MB (decide_eq_false (by rw[gp];lia)) (MA ?_);rw[textOf_cons]
  generalize hr:t0::r0=r at *
  have sm:=text_sum n10 h;refine Mv (MP (L_ ⟨_,rfl,NS rfl (NC bw r (fun _=>true) cC Dat.str (fun t=>[.sh (av r),.sh (.int t.m),.sh (.int t.a),.sh (.int t.b)]) (ρ1:=[.sh (av r)]) (own:=3) (bd:=bT [1,2,3]) ?_ ?_ (fun t=>rfl) (fun t u=>rfl) (fun t=>rfl) (by unfold SZ;lia) (fun t _=>Na ⟨rfl,rfl⟩) fun t ht _=>?_)⟩))
  ·rw[Lb.mpr (fun _ _=>rfl)];exact⟨_,_,rfl,kL _ _ (by unfold SZ;lia),rfl⟩
  ·rfl
  ·exact⟨_,_,Er n10 (h t ht) _,MH ⟨rfl,rfl⟩⟩
theorem Bc(h:cF [d]=some (.val (.bl true))):tQ [d]=some (.val .non):=by
 apply Mw;unfold tQ
 (refine Dm.Mx ?_ rfl rfl;and_intros)
 exact My (Mu (Mt (Ms (m_ (K_ rfl (J_ (Mp h (Mn (Mz (MA rfl))) rfl rfl)))))))
theorem qc{N:Int}(N10:N<=10)(h:∀t∈r,TOk N t)(hl:r.length<=60){n k:Nat}(hn:n<=12)(hk:k<=12)(q:cF [.tup [.int (n:Nat),.int (k:Nat),av r]]=some (.val (.bl true))):tR [.tup [.int (n:Nat),.int (k:Nat),av r]]=some (.val (.str (tx3 n k (textOf r)))):=by
 have sz:SZ=100000:=rfl;obtain⟨hs,ls⟩:=text_lo N10 h hl;have dn:=bP (v:=n) (k:=2) (by decide) (by lia);have dk:=bP (v:=k) (k:=2) (by decide) (by lia);apply Mw;unfold tR
 (refine Dm.Mx ?_ rfl rfl;and_intros)
 refine Mq (NJ (Ms (m_ (K_ rfl (J_ (Mp (Bc q) ?_ rfl rfl))))));refine Mv (MP (L_ ⟨_,rfl,M7 (m_ (ME (m_ (Mm (K_ rfl (L_ (Mr (v:=.int (n:Nat)) ?_ rfl rfl rfl)))))))⟩));refine J_ (MW ?_ rfl (fP (by lia)));refine m_ (ME (m_ (Mm (K_ rfl (L_ (Mr (v:=.int (k:Nat)) ?_ rfl rfl rfl))))));refine J_ (MW ?_ rfl (fP (by lia)));refine m_ (Ms (m_ (Mm (K_ rfl (L_ (Mr (v:=av r) ?_ rfl rfl rfl))))));refine J_ (Mp (fC N10 h hl) ?_ rfl rfl);refine J_ (MN ?_ rfl rfl (by exact Kv rfl));refine⟨_,_,rfl,kL [32] [bF n,bF k,textOf r] (by simp only[Ds,JG,Lp,List.sum_nil,gp,Ju];lia),?_⟩;have e:bY [32] [bF n,bF k,textOf r]=tx3 n k (textOf r):=by rw[dm,dm,fO];unfold tx3;simp
 rw[e];rfl
theorem iF{s r:FS}{ρ ρ':Env}(e:ai s r ρ=some (.nx ρ')):∃ρ1,s ρ=some (.nx ρ1)/\r ρ1=some (.nx ρ'):=by
 unfold ai at e;cases h1:s ρ with
 |none=>rw[h1]at e;cases e
 |some o=>
  rw[h1]at e;cases o with
  |nx ρ1=>exact⟨ρ1,rfl,e⟩
  |ret _ _=>cases e
  |bk _=>cases e
  |ct _=>cases e
theorem q1{ρ ρ':Env}(h:s ρ=some (.nx ρ'))(g:FSP):cA s g ρ=g ρ':=by unfold cA;rw[h]
theorem q2{s1 s2:FS}{ρ ρ':Env}(h:∀pM:FS,ai s1 (ai s2 pM) ρ=pM ρ')(g:FSP):cA s1 (cA s2 g) ρ=g ρ':=by obtain⟨ρ1,e1,e⟩:=iF (h sNx);obtain⟨ρ2,e2,e⟩:=iF e;cases e;rw[q1 e1,q1 e2]
theorem q3{s1 s2 s3:FS}{ρ ρ':Env}(h:∀pM:FS,ai s1 (ai s2 (ai s3 pM)) ρ=pM ρ')(g:FSP):cA s1 (cA s2 (cA s3 g)) ρ=g ρ':=by obtain⟨ρ1,e1,e⟩:=iF (h sNx);obtain⟨ρ2,e2,e⟩:=iF e;obtain⟨ρ3,e3,e⟩:=iF e;cases e;rw[q1 e1,q1 e2,q1 e3]
theorem rS(ns:List Int)(most:Int)(hl:10<=ns.length)(hl2:ns.length<=1000)(h0:0<=most)(h60:most<=60) :
  ∃(n:Int) (r:List Tie),cT [.lst (ns.map Dat.int),.int most]=some (.t [.s (.int n),.l ((r.map bw).map .s)])/\1<=n/\n<=10/\Good n 0 r/\(∀t∈r,t.m<=Hi)/\(r.length:Int)<=most:=by
 obtain⟨n,n1,n2,eA⟩:=stA ns most hl;obtain⟨many,a1,a2,eB'⟩:=stB ns most n hl;obtain⟨wide,mo,w1,w2,m1,m2,eC'⟩:=stC ns most n many hl;have c3:(0<(3:Int)/\(3:Int)<dW)=True:=by simp[dW]
 have cn:∃NU:Nat,(if most<many then (if ((ns.length:Int)-4) / 3<most then ((ns.length:Int)-4) / 3 else most) else (if ((ns.length:Int)-4) / 3<many then ((ns.length:Int)-4) / 3 else many))=(NU:Int)/\(NU:Int)<=most/\3+3*(NU:Int)<ns.length:=by
  refine⟨(if most<many then (if ((ns.length:Int)-4) / 3<most then ((ns.length:Int)-4) / 3 else most) else (if ((ns.length:Int)-4) / 3<many then ((ns.length:Int)-4) / 3 else many)).toNat,?_,?_,?_⟩
  ·split<;>split<;>lia
  ·split<;>split<;>lia
  ·split<;>split<;>lia
 obtain⟨NU,ec,cm,cl⟩:=cn;obtain⟨r,mo',c7,c8,c9,e,rl,rg,ru⟩:=t8 ns n many wide most n1 n2 w1 w2 NU 0 mo [] .un .un .un (by decide) (by lia) (by simp;lia);refine⟨n,r,?_,n1,n2,?_,fun t ht=>?_,by lia⟩
 ·have hb:((NU:Int)<=BIG/\-BIG<=(NU:Int))=True:=by simp only[eq_iff_iff,iff_true];unfold BIG;lia
  have z2:(2<=SZ)=True:=by simp[SZ]
  rw[Jt]at e;unfold cT fnP;refine(if_pos rfl).trans ?_;show cA _ (cA _ (cA _ (cA _ (cA _ (cA _ (cA _ (cA _ _))))))) [.sh (.lst (ns.map Dat.int)),.sh (.int most),.un,.un,.un,.un,.un,.un,.un,.un]=_;rw[q2 eA,q2 eB',q3 eC'];have lp:aY (iR1 (eB aO [(eV 3),(eV 1),(e2 aX (e2 aZ (eB aU [(eV 0)]) (eC (.int 4))) (eC (.int 3)))])) (bN 7) kh [.sh (.lst (ns.map Dat.int)),.sh (.int most),.sh (.int n),.sh (.int many),.sh (.int wide),.sh (.int mo),.ow (av []),.un,.un,.un]=some (.nx [.sh (.lst (ns.map Dat.int)),.sh (.int most),.sh (.int n),.sh (.int many),.sh (.int wide),.sh (.int mo'),.ow (av r),c7,c8,c9]):=by simp(config:={ decide:=true }) only[JM,c3,ec,hb,Ky,e,Dm.fn,Dm.ai,Dm.sA,Dm.sR,Dm.sE,Dm.sU,Dm.sIf,Dm.sNx,Dm.bA,Dm.bB,Dm.aY,Dm.e1,Dm.e2,Dm.eB,Dm.eAs,Dm.eC,Dm.eV,Dm.a_,Dm.aW,Dm.eF,Dm.eIf,Dm.bq,Dm.bC,Dm.tV,Dm.aR,Dm.bz,Dm.tOr,Dm.az,Dm.pk,Dm.tk,Dm.pks,Dm.tks,RV.ay,RV.dat,Dm.aG,Dm.aN,Dm.aZ,Dm.aS,Dm.aX,Dm.aE,Dm.br,Dm.gLt,Dm.gLe,Dm.gGt,Dm.bu,Dm.aH,Dm.aU,Dm.aL,Dm.aQ,Dm.aO,Dm.aT,Dm.bD,Dm.isI,Dm.isB,Dm.isL,Dm.isT,Dm.vB,Dm.vI,Ds,JG,gp,Ju,Jt,Jy,gc,Dk,gV,Jx,Jv,Jw,JI,if_true,if_false,JD,Dm.iR1,Dm.iR2,Dm.iS,Dm.bN,Dm.bT,Dm.sets,reduceIte,JF,Dm.ao,JA,JB,JE,JC,true_or,or_true,true_and,and_true,decide_true,decide_false,false_or,or_false,false_and,and_false]
  rw[q1 lp];rfl
 ·have mono:∀(r:List Tie) (a b:Int),a<=b->Good n b r->Good n a r:=fun r a b h g=>by
   cases r with
   |nil=>trivial
   |cons x y=>exact⟨LA h g.1,g.2⟩
  exact mono r _ _ m1 rg
 ·have:=ru t ht;have h1:(NU:Int)*Z28<=60*Z28:=by unfold Z28;lia
  have:(60:Int)*Z28=600000000000000000000000000000:=by decide
  show t.m<=700000000000000000000000000000
  lia
theorem qd:∀ys:List Dat,Ar (.l (ys.map .s))=some ys
 |[]=>rfl
 |y::ys=>by have:=qd ys;unfold Ar at this ⊢;dsimp only at this ⊢;rw[Ds,List.foldr_cons,this]
theorem NP{i j:Nat}{f:List Dat->Option Dp}{as:List FE}(h:Was as ρ fun xs ρ1=>∃ds ρ2 d ys ρ3,tks ρ1 xs=some (ds,ρ2)/\f ds=some (.t [.s d,.l (ys.map .s)])/\(ρ2.set i (.sh d)).set j (.ow (.lst ys))=ρ3/\N ρ3)(hi:¬(i=0\/j=0)):Ws (i9 i j f as) ρ N R B C:=by obtain⟨xs,ρ1,h1,ds,ρ2,d,ys,ρ3,h2,h3,h4,n⟩:=h;refine⟨.nx ρ3,?_,n⟩;unfold i9;rw[if_neg hi,h1];dsimp only;rw[h2];dsimp only;rw[h3];dsimp only;rw[qd,<- h4]
theorem NG{c:Nat}{e:FE}{gs:FS}{ρ ρ1:Env}{xs items:List Dp}(he:e ρ=some (.val d,ρ1))(k:Ws gs ρ1 N R B C)(h:xs[c]?=some (.l items))(hl:items.length<SZ):Wm (vg c e gs) ρ (.t xs) N R B C:=by obtain⟨o,h1,h2⟩:=k;refine⟨o,?_,h2⟩;unfold vg;dsimp only;rw[h];dsimp only;rw[if_pos hl,he];exact h1
theorem mX:∀r:List Tie,dO ((r.map bw).map .s)=true
 |[]=>rfl
 |t::r=>by rw[Ds,Ds,dO,mX r];rfl
noncomputable def nvP(n k:Nat)(r:List Tie):Dp:=.t [.s (.int (n:Nat)),.s (.int (k:Nat)),.l ((r.map bw).map .s)]
theorem yp(n k:Nat)(r:List Tie):eO (nvP n k r)=true:=by unfold nvP;simp only[eO,dO,mX,l8,Bool.and_true]
theorem ug(n k:Nat)(r:List Tie):(nvP n k r).dat=.tup [.int (n:Nat),.int (k:Nat),av r]:=by unfold nvP av;simp only[Dp.dat,Dp.o_,Dp.DN]
theorem vE{w:List Nat}(h:asc w){n k:Nat}(e:fZ w=some (n,k,r)):dQ [.str w]=some (nvP n k r):=by
 have hv:nw w=nvD (some (n,k,r)):=kQ e;have q:=rn4 h;rw[e,hv]at q;obtain⟨a1,a2⟩:=cg 32 h;obtain⟨b1,b2⟩:=cg 32 a2;have hv':=hv;unfold nw nvD at hv';injection hv' with hv'
 injection hv' with v1 hv'
 injection hv' with v2 hv'
 injection hv' with v3 _
 injection v3 with v3
 have p1:pO (eF cG [(e2 gIx (eV 1) (eC (.int 0)))]) [.sh (.str w),.sh (pt 32 w),.sh (pt 32 (aj 32 w).2.2),.un]=some (.s (.int (n:Nat)),[.sh (.str w),.sh (pt 32 w),.sh (pt 32 (aj 32 w).2.2),.un]):=by have:eF cG [(e2 gIx (eV 1) (eC (.int 0)))] [.sh (.str w),.sh (pt 32 w),.sh (pt 32 (aj 32 w).2.2),.un]=some (.val (.int (n:Nat)),[.sh (.str w),.sh (pt 32 w),.sh (pt 32 (aj 32 w).2.2),.un]):=MY (Ms (m_ (Mm (K_ rfl (L_ (Mr (v:=.str (aj 32 w).1) (J_ (Mp (bI a1) (by rw[v1];exact⟨rfl,rfl⟩) rfl (eT _))) rfl rfl rfl))))));unfold pO;rw[this]
 have p2:pO (eF cG [(e2 gIx (eV 2) (eC (.int 0)))]) [.sh (.str w),.sh (pt 32 w),.sh (pt 32 (aj 32 w).2.2),.un]=some (.s (.int (k:Nat)),[.sh (.str w),.sh (pt 32 w),.sh (pt 32 (aj 32 w).2.2),.un]):=by have:eF cG [(e2 gIx (eV 2) (eC (.int 0)))] [.sh (.str w),.sh (pt 32 w),.sh (pt 32 (aj 32 w).2.2),.un]=some (.val (.int (k:Nat)),[.sh (.str w),.sh (pt 32 w),.sh (pt 32 (aj 32 w).2.2),.un]):=MY (Ms (m_ (Mm (K_ rfl (L_ (Mr (v:=.str (aj 32 (aj 32 w).2.2).1) (J_ (Mp (bI b1) (by rw[v2];exact⟨rfl,rfl⟩) rfl (eT _))) rfl rfl rfl))))));unfold pO;rw[this]
 have p3:pO (eF eX [(e2 gIx (eV 2) (eC (.int 2)))]) [.sh (.str w),.sh (pt 32 w),.sh (pt 32 (aj 32 w).2.2),.un]=some (.l ((r.map bw).map .s),[.sh (.str w),.sh (pt 32 w),.sh (pt 32 (aj 32 w).2.2),.un]):=by have:eF eX [(e2 gIx (eV 2) (eC (.int 2)))] [.sh (.str w),.sh (pt 32 w),.sh (pt 32 (aj 32 w).2.2),.un]=some (.new (.lst (r.map bw)),[.sh (.str w),.sh (pt 32 w),.sh (pt 32 (aj 32 w).2.2),.un]):=MY (Ms (m_ (Mm (K_ rfl (L_ (Mr (v:=.str (aj 32 (aj 32 w).2.2).2.2) (J_ (MK (kI b2) (by rw[v3];exact⟨rfl,rfl⟩) rfl rfl rfl rfl)) rfl rfl rfl))))));unfold pO;rw[this]
 have pp:pT [(pO (eF cG [(e2 gIx (eV 1) (eC (.int 0)))])),(pO (eF cG [(e2 gIx (eV 2) (eC (.int 0)))])),(pO (eF eX [(e2 gIx (eV 2) (eC (.int 2)))]))] [.sh (.str w),.sh (pt 32 w),.sh (pt 32 (aj 32 w).2.2),.un]=some (nvP n k r,[.sh (.str w),.sh (pt 32 w),.sh (pt 32 (aj 32 w).2.2),.un]):=by unfold pT;rw[pAs,p1];dsimp only;rw[pAs,p2];dsimp only;rw[pAs,p3];rfl
 unfold dQ fnP;refine(if_pos rfl).trans ?_;show cA _ (cA _ _) [.sh (.str w),.un,.un,.un]=_;unfold cA;rw[rn1 h];dsimp only;rw[rn2 h];dsimp only;unfold pL;rw[if_neg (by show ¬(3=0\/false=true);decide),pp];dsimp only;unfold xB cIf;have sv:see 3 ([Cell.sh (.str w),.sh (pt 32 w),.sh (pt 32 (aj 32 w).2.2),.un].set 3 .un) (nvP n k r)=[.sh (.str w),.sh (pt 32 w),.sh (pt 32 (aj 32 w).2.2),.sh (nvD (some (n,k,r)))]:=by unfold see;rw[ug];rfl
 rw[sv,q];rfl
noncomputable abbrev I_(D:List Tie):Prop:=D.Pairwise fun t u=>t.m<u.m
theorem Good.lo:∀{r:List Tie} {lo:Int},Good n lo r->∀t∈r,lo<=t.m
 |[],_,_,t,h=>by cases h
 |x::r,lo,g,t,h=>by
  rcases JV.mp h with rfl | h
  ·exact g.1
  ·have:=Good.lo g.2.2.2.2 t h;have:=g.1;lia
theorem Good.mem:∀{r:List Tie} {lo:Int},Good n lo r->∀t∈r,0<=t.a/\t.a<=t.b/\t.b<n
 |[],_,_,t,h=>by cases h
 |x::r,lo,g,t,h=>by
  rcases JV.mp h with rfl | h
  ·exact⟨g.2.1,g.2.2.1,g.2.2.2.1⟩
  ·exact Good.mem g.2.2.2.2 t h
theorem Good.BV:∀{r:List Tie} {lo:Int},Good n lo r->I_ r
 |[],_,_=>List.Pairwise.nil
 |x::r,lo,g=>LN.mpr ⟨fun u hu=>by have:=Good.lo g.2.2.2.2 u hu;lia,Good.BV g.2.2.2.2⟩
theorem NH{I N:Env->Prop}(h:Ws s ρ I R B C)(k:∀ρ,I ρ->N ρ):Ws s ρ N R B C:=by
 obtain⟨o,e,q⟩:=h;refine⟨o,e,?_⟩;cases o with
 |nx ρ=>exact k _ q
 |ret _ _=>exact q
 |bk _=>exact q
 |ct _=>exact q
theorem yq(n k:Nat)(r:List Tie):okD 8 (.tup [.int (n:Nat),.int (k:Nat),av r])=true:=by
 have:okD 7 (av r)=true:=by unfold av;rw[okD,Mh,JZ];intro t _;rfl
 rw[okD];simp only[LP,List.all_nil,this,Bool.and_true,okD]
theorem yr(n k:Nat)(r:List Tie):eqD (.tup [.int (n:Nat),.int (k:Nat),av r]) (.tup [.int (n:Nat),.int (k:Nat),av r])=true:=by rw[eqD,iM,iM,iM,yh];simp[eqD,iM]
theorem text_addS{v:Nat}(hi:ρ[i]?=some (.sh (.int (v:Nat))))(hv:v<10 ^ 60)(q:Q (.val (.str (bF v))) ρ):We (eB dP [(eV i)]) ρ Q:=
 ME (m_ (K_ hi (J_ (MW q rfl hv))))
theorem yt(ns:List Int)(cell:Int)(c2 c3 c4 c5 c6 c7 c8 c9 c10:Cell){R:RV->Env->Prop}{B C:Env->Prop}(kk:∀c2 c3 c4 c5 c6 c7 c8 c9 c10:Cell,N [.sh (.lst (ns.map Dat.int)),.sh (.int cell),c2,c3,c4,c5,c6,c7,c8,c9,c10]) :
  Ws rH [.sh (.lst (ns.map Dat.int)),.sh (.int cell),c2,c3,c4,c5,c6,c7,c8,c9,c10] N R B C:=by
 unfold rH;have sz:SZ=100000:=rfl;refine Mq (MM (Ms (m_ (K_ rfl (m_ (L_ (m_ (Mm (L_ (L_ (rM (J_ (MK (rJ cell 187 (by decide)) ?_ rfl rfl rfl rfl)) rfl rfl)))))))))) (by decide));refine MR ?_ (by trivial);have ln:(numsOf cell 187).length=187:=pS cell 187 0 _
 generalize numsOf cell 187=ds at ln
 have lc:(j9 ds (some 3) none).length=184:=by unfold j9;rw[ln,KA,KC,ln];decide
 obtain⟨n',D0,er,n1,n10,hg,hh,hl⟩:=rS (j9 ds (some 3) none) 59 (by lia) (by lia) (by decide) (by decide);obtain⟨n,rfl⟩:∃m:Nat,n'=m:=⟨n'.toNat,by lia⟩
 refine Mq (NP (m_ (Nm (MI rfl (Wp.some (L_ (l_.mk (Wp.none (Wsl.A (AW:=Dat.int) (xs:=ds) ?_ rfl)))))))) (by decide));refine m_ (L_ (J_ ⟨_,_,_,_,_,rfl,er,(by trivial),?_⟩));have at_:∀(i:Int) {o p:Option Dat} {K:RV->Prop},0<=i->i<187->(∀v:Int,K (.val (.int v)))->o=some (.lst (ds.map Dat.int))->p=some (.int i)->Wg2 gIx o p K:=fun i o p K h0 h1 q ho hp=>Nf (AW:=Dat.int) (xs:=ds) h0 (by rw[ln];exact h1) (q _) ho hp;have GY:∀t∈D0,TOk n t:=fun t ht=>by obtain⟨h1,h2,h3⟩:=hg.mem t ht;exact⟨hg.lo t ht,LA (hh t ht) (by decide),h1,h2,h3⟩
 have up0:(D0.map (·.m)).Pairwise (· < ·):=List.pairwise_map.mpr hg.BV;refine Mq (NH (I:=fun ρ=>∃D:List Tie,ρ=[.sh (.lst (ns.map Dat.int)),.sh (.int cell),.ow (.lst (ds.map Dat.int)),.sh (.int (n:Nat)),.ow (.lst (D.map bw)),c5,c6,c7,c8,c9,c10]/\(∀t∈D,TOk n t)/\(D.map (·.m)).Pairwise (· < ·)/\D.length<=60) ?_ ?_)
 ·refine My (Mt (Mm (Mm (Mm (MI rfl (L_ (at_ 1 (by decide) (by decide) (fun v=>?_) rfl rfl)))))));refine L_ (M3 ?_ rfl rfl (by decide));refine L_ (M6 (Mn ?_) rfl rfl);refine Nh (fun _=>?_) fun _=>MA ⟨D0,rfl,GY,up0,by lia⟩;refine M8 (M0 (m_ (Mm (L_ (L_ (rM ?_ rfl rfl)))))) rfl;refine m_ (L_ (m_ (Mm (K_ rfl (L_ (MX ?_ rfl rfl))))));refine J_ (MN ?_ rfl rfl (by exact Kv rfl));refine MH (rF (ds:=D0.map bw) ?_ rfl rfl (by rw[JM];lia));refine⟨D0++[⟨Z30,0,(n:Int)-1⟩],?_,fun t ht=>?_,?_,by rw[JO];show _+1<=_;lia⟩
  ·rw[LB];rfl
  ·rcases Ks.mp ht with ht | ht
   ·exact GY t ht
   ·rw[Kd.mp ht];exact⟨by show (0:Int)<=Z30;decide,Int.le_refl _,Int.le_refl _,by show (0:Int)<=n-1;lia,by show (n:Int)-1<n;lia⟩
  ·rw[LB,List.pairwise_append];refine⟨up0,List.pairwise_singleton _ _,fun x hx y hy=>?_⟩;obtain⟨t,ht,rfl⟩:=Kw.mp hx;rw[Kd.mp hy];exact Int.lt_of_le_of_lt (hh t ht) (by show (Hi:Int)<Z30;decide)
 rintro ρ ⟨D,rfl,tok,up,hlD⟩;have okr:okD 8 (.lst (D.map bw))=true:=Eo D;have eqr:eqD (.lst (D.map bw)) (.lst (D.map bw))=true:=yh D;obtain⟨hs,ls⟩:=text_lo (n:=(n:Int)) (by lia) tok hlD;have ta:asc (textOf D):=ye hs (by lia);refine Mq (MM (Ms (m_ (Mm (MI rfl (L_ (at_ 0 (by decide) (by decide) (fun v=>?_) rfl rfl)))))) (by decide));obtain⟨k,k1,k6,ek⟩:=xX v;refine J_ (Mp ek (MJ ?_ (by trivial)) rfl rfl);refine Mq (MM (ME (m_ (MI rfl (J_ (Ng (MR ?_ (by trivial)) rfl))))) (by decide));refine Mq (MM (Ms (m_ (MI rfl (J_ (Mp (jv (n:=(n:Int)) (by lia) tok hlD) (MJ ?_ (by trivial)) rfl rfl))))) (by decide));have rt:=fC (n:=(n:Int)) (by lia) tok hlD;refine Mq (My (MC (Mt (Mm (Ms (m_ (MI rfl (J_ (Mp rt ?_ rfl rfl)))))))));refine K_ rfl (MZ ta ta (Mn ?_) rfl rfl);refine MB (by simp) (MC (Mt (Mm (MI rfl (MI rfl (MV okr eqr (Mn (MB rfl ?_)) rfl rfl))))));refine Mu (Mt (ML (Ms (m_ (MI rfl (J_ (Mp rt (MG (v:=.val (.bl true)) (Mn (Mz (MA ?_))) rfl rfl) rfl rfl)))))));have rr:=vz (n:=(n:Int)) (by lia) (by lia) ta (ua (n:=(n:Int)) (by lia) tok up hlD);refine Mq (MM (Ms (m_ (K_ rfl (m_ (K_ rfl (J_ (MK rr ?_ rfl rfl rfl rfl))))))) (by decide));refine MR ?_ (by trivial);refine Mq (My (MC (Mu (Mt (ML (MI rfl (MG (v:=.val (.bl true)) (Mn (Mz ?_)) rfl rfl)))))));refine Mt (Mm (MI rfl (MI rfl (MV okr eqr (Mn (MB rfl (MA ?_))) rfl rfl))));refine Mq (M8 (M0 (m_ (L_ (m_ (L_ (m_ (L_ (J_ (MN ?_ rfl rfl (by exact Kv rfl)))))))))) rfl);refine MH (rF (ds:=D.map bw) ?_ rfl (by trivial) (by rw[JM];lia));refine Mq (My (Mt (Mm (Ms (m_ (K_ rfl (m_ (K_ rfl (J_ (MK rr ?_ rfl rfl rfl rfl))))))))));refine MI rfl (MV okr eqr (Mn (MB rfl (MA ?_))) rfl rfl);obtain ⟨ms,el,al⟩:=pY n (by lia) k (by lia) D (fun t ht=>by obtain⟨q1,q2,q3,q4,q5⟩:=tok t ht;exact⟨q3,by lia,by lia,q5⟩) (by lia)
 rw[al.uniq (jM k D)]at el;refine Mq (MM (Ms (m_ (K_ rfl (m_ (MI rfl (m_ (K_ rfl (J_ (MK el ?_ rfl rfl rfl (by trivial)))))))))) (by decide));refine MR ?_ (by trivial);refine Mq (MM (M0 (m_ (K_ rfl (m_ (K_ rfl (m_ (vC (ρ1:=[.sh (.lst (ns.map Dat.int)),.sh (.int cell),.ow (.lst (ds.map Dat.int)),.sh (.int (n:Nat)),.sh (.lst (D.map bw)),.sh (.int (k:Nat)),.ow (.lst (D.map bw)),.sh (.str (textOf D)),.ow (.lst (D.map bw++[.tup [.int 0,.int 0,.int 0]])),.sh (.lst ((nmb k D).map Dat.int)),c10]) D (nmb k D) (k:=11) ?_ ?_ rfl (by decide) (JU hlD (by decide))))))))) (by decide))
 rotate_left
 ·rfl
 refine J_ (MN (MJ ?_ (by trivial)) rfl rfl (by exact Kv rfl));have lK:(keep D (nmb k D)).length<=D.length:=(iE D (nmb k D)).length_le;have yu:∀t∈keep D (nmb k D),TOk n t:=fun t ht=>tok t (yi ht);have upK:((keep D (nmb k D)).map (·.m)).Pairwise (· < ·):=up.sublist ((iE D (nmb k D)).map _);have no0:=yo (k:=k) D
 generalize keep D (nmb k D)=K at *
 have n12:n<=10:=by lia
 obtain⟨hs2,ls2⟩:=text_lo (n:=(n:Int)) (by lia) yu (by lia);have dn:=bP (v:=n) (k:=2) (by decide) (by lia);have dk:=bP (v:=k) (k:=2) (by decide) (by lia);have aw:asc (tx3 n k (textOf K)):=by unfold tx3;exact ye (ef (ef (ef (ef (iD n) (jb rfl)) (iD k)) (jb rfl)) hs2) (by simp only[JO,gp,Ju];lia)
 have ew:fZ (tx3 n k (textOf K))=some (n,k,K):=by rw[ym (N:=(n:Int)) (by lia) yu upK (by lia) (by lia) (by lia)];unfold due;rw[if_pos ⟨⟨k1,k6⟩,by lia,by lia⟩,if_pos fun t ht=>(yu t ht).bn,if_neg no0]
 have isn:cF [.tup [.int (n:Nat),.int (k:Nat),av K]]=some (.val (.bl true)):=by have q:cF [nw (tx3 n k (textOf K))]=some (.val (.bl (fZ (tx3 n k (textOf K))).isSome)):=p8 _ _ _ (JU (nZ (cg 32 (cg 32 aw).2).2) (by decide));have hv:nw (tx3 n k (textOf K))=nvD (some (n,k,K)):=kQ ew;rw[ew,hv]at q;exact q
 have nt:=qc (N:=(n:Int)) (by lia) yu (by lia) (n:=n) (k:=k) (by lia) (by lia) isn;refine Mq (MM (Mm (Mm (Mm (Mm (text_addS rfl (fP (by lia)) (L_ (MO ?_ rfl rfl (by simp only[JO,gp,Ju];lia)))))))) (by decide));refine text_addS rfl (fP (by lia)) (MO ?_ rfl rfl (by simp only[JO,gp,Ju];lia));refine L_ (MO ?_ rfl rfl (by simp only[JO,gp,Ju];lia));refine Ms (m_ (Mm (K_ rfl (L_ (Mr (v:=av K) ?_ rfl rfl rfl)))));refine J_ (Mp (jv (n:=(n:Int)) (by lia) yu (by lia)) ?_ rfl rfl);refine MO ?_ rfl rfl (by simp only[JO,gp,Ju];lia);show WA 7 (.val (.str (tx3 n k (textOf K)))) _ _;refine MJ ?_ (by trivial);refine Mq (My (Mt (Mm (Ms (m_ (K_ rfl (J_ (Mp nt ?_ rfl rfl))))))));refine K_ rfl (MZ aw aw (Mn (MB (by simp) (MA ?_))) rfl rfl);refine NO (m_ (K_ rfl (J_ ⟨_,_,_,vE aw ew,?_,rfl,yp n k K,(by trivial)⟩))) (by decide);refine NL (ρ':=[.sh (.lst (ns.map Dat.int)),.sh (.int cell),.sh (.lst (ds.map Dat.int)),.sh (.int (n:Nat)),.sh (.lst (D.map bw)),.sh (.int (k:Nat)),.sh (.lst (D.map bw)),.sh (.str (tx3 n k (textOf K))),.sh (.tup [.int (n:Nat),.int (k:Nat),av K]),.sh (.lst ((nmb k D).map Dat.int)),.sh (.tup [.int (n:Nat),.int (k:Nat),av K])]) ?_ ?_ ?_
 ·refine MC (Mu (Mt (ML (K_ rfl (MG (v:=.val (.bl true)) (Mn (Mz ?_)) rfl rfl)))));refine MC (Mt (Mm (K_ rfl (K_ rfl (MV (yq n k K) (yr n k K) (Mn (MB rfl ?_)) rfl rfl)))));exact Mu (Mt (ML (Mm (K_ rfl (L_ (Mr (v:=av K) (MG (v:=.val (.bl true)) (Mn rfl) rfl rfl) rfl rfl rfl))))))
 ·refine NG (d:=.tup [.int 0,.int 0,.int 0]) (items:=(K.map bw).map .s) rfl ?_ rfl (by rw[JM,JM];lia);refine My (Mt (Mm (Ms (m_ (K_ rfl (J_ (MK (mh aw ew) ?_ rfl rfl rfl rfl)))))));refine K_ rfl (MV (yq n k K) (yr n k K) (Mn (MB rfl (MA ?_))) rfl rfl);exact kk _ _ _ _ _ _ _ _ _
 ·unfold see;rw[ug];rfl
theorem math(ns:List Int)(h:ns.length<=63):ko [.lst (ns.map Dat.int)]=some (.val (.bl true)):=by
 apply Mw;unfold ko
 (refine Dm.Mx ?_ rfl rfl;and_intros)
 have hc:=xK ns none (some 10);refine Mq (Np (Nz (Mm (Nm (K_ rfl (Wp.none (Wp.some (L_ (l_.mk (Wsl.A (AW:=Dat.int) (xs:=ns) ?_ rfl))))))))));refine M7 (m_ (ME (m_ (K_ rfl (J_ (M5 (AW:=Dat.int) (xs:=ns) (J_ (MN ?_ rfl rfl (by exact Kv rfl))) rfl))))));refine Nv ?_ rfl rfl (by rw[JM];show _+1<=100000;lia);refine M9 (nQ ?_);have e:(j9 ns none (some 10)).map Dat.int++[.int (ns.length:Nat)]=(j9 ns none (some 10)++[((ns.length:Nat):Int)]).map Dat.int:=by rw[LB];rfl
 rw[e];refine NI Dat.int _ _ (j9 ns none (some 10)++[((ns.length:Nat):Int)]) _ _ _ _ _ (fun p q ρ=>∃c1 c2 c3 c4 c5 c6 c7 c8 c9 c10:Cell,ρ=[.sh (.lst (ns.map Dat.int)),c1,c2,c3,c4,c5,c6,c7,c8,c9,c10]) ⟨_,_,_,_,_,_,_,_,_,_,rfl⟩ ?_ ?_
 ·rintro p cell q ρ ex ⟨c1,c2,c3,c4,c5,c6,c7,c8,c9,c10,rfl⟩;refine Dm.AZ rfl (by trivial) ?_;exact yt ns cell _ _ _ _ _ _ _ _ _ fun c2 c3 c4 c5 c6 c7 c8 c9 c10=>⟨_,_,_,_,_,_,_,_,_,_,rfl⟩
 ·rintro ρ ⟨c1,c2,c3,c4,c5,c6,c7,c8,c9,c10,rfl⟩;exact Mv (L_ rfl)
end
end P
namespace Q
open PySem L2 Br Dm P
noncomputable def top(i:Nat):Stmt:=PySem.Challenge.pw_sinceply_k55_records_written.main.body.getD i (.Pass ⟨0,0,0,0⟩)
structure Txt(mg:Str->Option Value)(K:Js)(base:Heap)(rT rV rW rX rY rZ r8 r9 r_ sd kR kT kU kW kX kY kZ k7 k8 k9 k_ lg jx lq lu ly lz lA lB lC lD lE:Addr)(lF lG lH lI lJ lM lN lO lP lQ gA gB gC gD gE gF gG gH gI gJ gK gM fD gO gP gQ gR gS gT gU gW je:FuncData):Prop where
 yw:mg "all" = none
 Es:mg "bool" = none
 qe:mg "enumerate" = none
 yx:mg "int" = none
 bH:mg "isinstance" = none
 fE:mg "len" = none
 gX:mg "list" = none
 GZ:mg "max" = none
 uh:mg "min" = none
 dj:mg "range" = none
 lR:mg "reversed" = none
 jy:mg "str" = none
 n8:mg "tuple" = none
 G0:mg "zip" = none
 n9:∃t,mg "FIGURES" = some (.str ⟨([48,49,50,51,52,53,54,55,56,57]:List Nat).toArray⟩ t)
 iG:∃t,mg "MOST_FIGURES" = some (.int 60 t)
 lS:∃t,mg "MOST_TIES" = some (.int 60 t)
 dU:∃t,mg "WITHOUT_TIES" = some (.str ⟨([110,111,110,101]:List Nat).toArray⟩ t)
 Ja:mg "is_whole" = some (.ref rT)
 Bd:mg "is_within" = some (.ref rV)
 Jb:mg "is_places" = some (.ref rW)
 G1:mg "is_place" = some (.ref rX)
 G3:mg "is_layers" = some (.ref rY)
 Jc:mg "is_moment" = some (.ref rZ)
 Jd:mg "is_tie_either_way" = some (.ref r8)
 Je:mg "is_tie" = some (.ref r9)
 Jf:mg "is_rising" = some (.ref r_)
 Jg:mg "look_at_layers" = some (.ref sd)
 G4:mg "merged" = some (.ref kR)
 G5:mg "least_layer" = some (.ref kT)
 G6:mg "layered" = some (.ref kU)
 BW:mg "is_record" = some (.ref kW)
 yz:mg "is_net" = some (.ref kX)
 G7:mg "look_at_net" = some (.ref kY)
 yC:mg "record_text" = some (.ref kZ)
 G8:mg "net_text" = some (.ref k7)
 lT:mg "read_number" = some (.ref k8)
 G9:mg "read_tie" = some (.ref k9)
 yD:mg "read_ties" = some (.ref k_)
 BX:mg "read_record" = some (.ref lg)
 BY:mg "read_net" = some (.ref jx)
 G_:mg "_law_mixed" = some (.ref lq)
 Hg:mg "_law_numbers" = some (.ref lu)
 Hh:mg "_law_ends" = some (.ref ly)
 Hj:mg "_law_record" = some (.ref lz)
 Hl:mg "_law_depth" = some (.ref lA)
 Ho:mg "_law_joined" = some (.ref lB)
 Hq:mg "_law_numbered" = some (.ref lC)
 BZ:mg "_law_text" = some (.ref lD)
 Jk:mg "law" = some (.ref lE)
 Hr:Fun K "is_whole" "is_whole" (top 6) rT lF
 Et:Binds K lF ["thing"] []
 yE:Fun K "is_within" "is_within" (top 7) rV lG
 vF:Binds K lG ["thing","low","high"] []
 Ht:Fun K "is_places" "is_places" (top 8) rW lH
 Eu:Fun K "is_place" "is_place" (top 9) rX lI
 Ew:Fun K "is_layers" "is_layers" (top 10) rY lJ
 Hu:Fun K "is_moment" "is_moment" (top 11) rZ lM
 Be:Binds K lI ["n","thing"] []
 Ex:Binds K lM ["thing"] []
 Hv:Fun K "is_tie_either_way" "is_tie_either_way" (top 12) r8 lN
 Ey:Binds K lN ["n","thing"] []
 Hw:Fun K "is_tie" "is_tie" (top 13) r9 lO
 Hx:Fun K "is_rising" "is_rising" (top 14) r_ lP
 Bf:Binds K lJ ["thing"] []
 Hy:Fun K "look_at_layers" "look_at_layers" (top 15) sd lQ
 B0:Fun K "merged" "merged" (top 17) kR gA
 B3:Fun K "least_layer" "least_layer" (top 20) kT gB
 Ez:Binds K lQ ["k"] []
 yF:Binds K gA ["groups","a","b"] []
 yG:Binds K gB ["layers","a","b"] []
 B4:Fun K "layered" "layered" (top 19) kU gC
 EA:Binds K lH ["thing"] []
 EB:Binds K lO ["n","thing"] []
 EC:Binds K lP ["things"] []
 yH:Fun K "is_record" "is_record" (top 23) kW gD
 yI:Binds K gC ["n","record","k"] []
 um:Binds K gD ["n","thing"] []
 uo:Fun K "is_net" "is_net" (top 25) kX gE
 qf:Binds K gE ["thing"] []
 B5:Fun K "look_at_net" "look_at_net" (top 26) kY gF
 uq:Fun K "record_text" "record_text" (top 31) kZ gG
 yJ:Binds K gF ["thing"] []
 qg:Binds K gG ["record"] []
 B6:Fun K "net_text" "net_text" (top 32) k7 gH
 jz:Fun K "read_number" "read_number" (top 37) k8 gI
 iH:Binds K gI ["word"] []
 B7:Fun K "read_tie" "read_tie" (top 36) k9 gJ
 yK:Binds K gJ ["word"] []
 ur:Fun K "read_ties" "read_ties" (top 35) k_ gK
 qh:Binds K gK ["text"] []
 yL:Fun K "read_record" "read_record" (top 33) lg gM
 uu:Fun K "read_net" "read_net" (top 34) jx fD
 B8:Fun K "_law_mixed" "_law_mixed" (top 39) lq gO
 yM:Binds K gO ["cell","k"] []
 B9:Fun K "_law_numbers" "_law_numbers" (top 40) lu gP
 B_:Fun K "_law_ends" "_law_ends" (top 41) ly gQ
 yN:Binds K gQ ["n","kind","one","other"] []
 Ca:Fun K "_law_record" "_law_record" (top 42) lz gR
 Cb:Fun K "_law_depth" "_law_depth" (top 43) lA gS
 Cc:Fun K "_law_joined" "_law_joined" (top 44) lB gT
 yO:Binds K gT ["n","ties","a","b"] []
 Cd:Fun K "_law_numbered" "_law_numbered" (top 45) lC gU
 yP:Fun K "_law_text" "_law_text" (top 46) lD gW
 yQ:Binds K gH ["net"] []
 uv:Binds K gM ["n","text"] []
 uw:Binds K fD ["text"] []
 yR:Binds K gP ["cell","many","base"] []
 yS:Binds K gR ["numbers","most"] []
 yT:Binds K gS ["number"] []
 yU:Binds K gU ["n","record","k"] []
 ux:Binds K gW ["record"] []
 Hz:Fun K "law" "law" (top 47) lE je
section
variable{P':Program}{w:World}{K:Js}{mg:Str->Option Value}{base:Heap}{rT rV rW rX rY rZ r8 r9 r_ sd kR kT kU kW kX kY kZ k7 k8 k9 k_ lg jx lq lu ly lz lA lB lC lD lE:Addr}
variable{lF lG lH lI lJ lM lN lO lP lQ gA gB gC gD gE gF gG gH gI gJ gK gM fD gO gP gQ gR gS gT gU gW je:FuncData}
theorem HA:aF ["thing"] ["thing"] (ah (top 6)):=fsc
theorem HB:aF ["thing","low","high"] ["thing","low","high"] (ah (top 7)):=fsc
theorem HC:aF ["thing"] ["thing"] (ah (top 8)):=fsc
theorem HD:aF ["n","thing"] ["n","thing"] (ah (top 9)):=fsc
theorem HE:aF ["thing"] ["thing"] (ah (top 10)):=fsc
theorem HF:aF ["thing"] ["thing"] (ah (top 11)):=fsc
theorem HG:aF ["n","thing"] ["n","thing"] (ah (top 12)):=fsc
theorem HH:aF ["n","thing"] ["n","thing"] (ah (top 13)):=fsc
theorem HJ:aF ["things"] ["things"] (ah (top 14)):=fsc
theorem ED:(["things","at"]:List Str).Nodup:=by decide +kernel
theorem HK:aF ["k"] ["k"] (ah (top 15)):=fsc
theorem EE:aF ["groups","a","b"] ["groups","a","b"] (ah (top 17)):=fsc
theorem Bg:(["groups","a","b","group"]:List Str).Nodup:=by decide +kernel
theorem se:aF ["layers","a","b","at","groups"] ["layers","a","b"] (ah (top 20)):=fsc
theorem gY:aF ["n","record","k","layers","numbers","moment","a","b","number"] ["n","record","k"] (ah (top 19)):=fsc
theorem Bh:(["n","record","k","layers","numbers","moment","a","b","number","layer"]:List Str).Nodup:=by decide +kernel
theorem EF:aF ["n","thing"] ["n","thing"] (ah (top 23)):=fsc
theorem Bj:(["n","thing","tie"]:List Str).Nodup:=by decide +kernel
theorem Bk:(["n","thing","tie"]:List Str).Nodup:=by decide +kernel
theorem EG:aF ["thing"] ["thing"] (ah (top 25)):=fsc
theorem EH:aF ["thing"] ["thing"] (ah (top 26)):=fsc
theorem EI:aF ["record"] ["record"] (ah (top 31)):=fsc
theorem n_:(["record","moment","a","b"]:List Str).Nodup:=by decide +kernel
theorem EJ:aF ["net"] ["net"] (ah (top 32)):=fsc
theorem EK:aF ["word"] ["word"] (ah (top 37)):=fsc
theorem Bl:(["word","sign"]:List Str).Nodup:=by decide +kernel
theorem sj:aF ["word","first","ends"] ["word"] (ah (top 36)):=fsc
theorem EL:aF ["text"] ["text"] (ah (top 35)):=fsc
theorem Bm:(["text","word"]:List Str).Nodup:=by decide +kernel
theorem yV:aF ["n","text","record"] ["n","text"] (ah (top 33)):=fsc
theorem fF:aF ["text","first","second","net"] ["text"] (ah (top 34)):=fsc
theorem sq:aF ["cell","k","number"] ["cell","k"] (ah (top 39)):=fsc
theorem eu:aF ["cell","many","base","found","left","k","number","turns"] ["cell","many","base"] (ah (top 40)):=fsc
theorem yW:aF ["n","kind","one","other","a"] ["n","kind","one","other"] (ah (top 41)):=fsc
theorem c_:aF ["numbers","most","n","many","wide","moment","record","k","a","b"] ["numbers","most"] (ah (top 42)):=fsc
theorem EM:aF ["number"] ["number"] (ah (top 43)):=fsc
theorem fG:aF ["n","ties","a","b","marks","moment","one","other","old","new"] ["n","ties","a","b"] (ah (top 44)):=fsc
theorem Bo:(["n","ties","a","b","marks","moment","one","other","old","new","mark"]:List Str).Nodup:=by decide +kernel
theorem lU:aF ["n","record","k","numbers","at","j","ties"] ["n","record","k"] (ah (top 45)):=fsc
theorem Bp:(["n","record","k","numbers","at","j","ties","later"]:List Str).Nodup:=by decide +kernel
theorem EN:aF ["record"] ["record"] (ah (top 46)):=fsc
theorem Bq:(["record","tie"]:List Str).Nodup:=by decide +kernel
theorem cR:aF ["script","cell","numbers","n","record","k","handed","text","found","told","net"] ["script"] (ah (top 47)):=fsc
theorem uy:(["script","cell","numbers","n","record","k","handed","text","found","told","net","tie","number"]:List Str).Nodup:=by decide +kernel
variable(T:Txt mg K base rT rV rW rX rY rZ r8 r9 r_ sd kR kT kU kW kX kY kZ k7 k8 k9 k_ lg jx lq lu ly lz lA lB lC lD lE lF lG lH lI lJ lM lN lO lP lQ gA gB gC gD gE gF gG gH gI gJ gK gM fD gO gP gQ gR gS gT gU gW je)
include T
theorem HL :
  bK P' w K mg base CX0 1 rT lF ["thing"] (spD xO):=
 okQ T.Hr HA fun _ _ _ _ _ _ hr=>(aA (s_r (oY (ir z9 (by rfl) rfl T.yx rfl T.bH (d_v 0)) (sZ (Gd (ir wK (by rfl) rfl T.Es rfl T.bH (d_v 0)))))))
theorem uz :
  bK P' w K mg base CX0 2 rV lG ["thing","low","high"] (spD gk):=
 okQ T.yE HB fun _ _ _ _ _ _ hr=>(aA (s_r (oY (aD (HL T) (Br.hm hr) rfl T.Ja T.Hr.kp T.Et (aa (d_v 0) af)) (sZ (z_ oJ oW oJ oW (d_v 1) (d_v 0) (d_v 2))))))
theorem HM :
  bK P' w K mg base CX0 3 rW lH ["thing"] (spD rG):=
 okQ T.Ht HC fun _ _ _ _ _ _ hr=>(aA (s_r (aD (uz T) (Br.hm hr) rfl T.Bd T.yE.kp T.vF (aa (d_v 0) (aa d_i (aa d_i af))))))
theorem Ce :
  bK P' w K mg base CX0 3 rX lI ["n","thing"] (spD xP):=
 okQ T.Eu HD fun _ _ _ _ _ _ hr=>(aA (s_r (aD (uz T) (Br.hm hr) rfl T.Bd T.yE.kp T.vF (aa (d_v 1) (aa d_i (aa (jk (d_v 0) d_i) af))))))
theorem Cf :
  bK P' w K mg base CX0 3 rY lJ ["thing"] (spD kc):=
 okQ T.Ew HE fun _ _ _ _ _ _ hr=>(aA (s_r (aD (uz T) (Br.hm hr) rfl T.Bd T.yE.kp T.vF (aa (d_v 0) (aa d_i (aa d_i af))))))
theorem HN :
  bK P' w K mg base CX0 3 rZ lM ["thing"] (spD A0):=
 okQ T.Hu HF fun _ _ _ _ _ _ hr=>(aA (s_r (aD (uz T) (Br.hm hr) rfl T.Bd T.yE.kp T.vF (aa (d_v 0) (aa d_i (aa (mJ d_i d_i) af))))))
theorem HP :
  bK P' w K mg base CX0 4 r8 lN ["n","thing"] (spD A1):=
 okQ T.Hv HG fun _ _ _ _ _ _ hr=>(ak (cK (t_w (w_or (cJ (cL (ir kit_tuple (by rfl) rfl T.n8 rfl T.bH (d_v 1)))) (jl (jX hr (fX rfl T.fE (aa (d_v 1) af)) d_i)))) (aA (s_r d_b)) bQ)
  (aA (s_r (oY (aD (HN T) (Br.hm hr) rfl T.Jc T.Hu.kp T.Ex (aa (bf (d_v 1) d_i) af)) (oY (aD (Ce T) (Br.hm hr) rfl T.G1 T.Eu.kp T.Be (aa (d_v 0) (aa (bf (d_v 1) d_i) af))) (sZ (aD (Ce T) (Br.hm hr) rfl T.G1 T.Eu.kp T.Be (aa (d_v 0) (aa (bf (d_v 1) d_i) af)))))))))
theorem HQ :
  bK P' w K mg base CX0 5 r9 lO ["n","thing"] (spD A2):=
 okQ T.Hw HH fun _ _ _ _ _ _ hr=>(aA (s_r (oY (aD (HP T) (Br.hm hr) rfl T.Jd T.Hv.kp T.Ey (aa (d_v 0) (aa (d_v 1) af))) (sZ (Iw (bf (d_v 1) d_i) (bf (d_v 1) d_i))))))
theorem HR :
  bK P' w K mg base CX0 1 r_ lP ["things"] (spD A3):=
 okQ T.Hx HJ fun _ _ _ _ _ _ hr=>(aA (s_r (wQ rfl rfl T.yw (aa (Ac ["things"] ["at"] (c_n 1 ED rfl rfl) (Ge rfl T.dj (aa d_i (aa (fX rfl T.fE (aa (d_v 0) af)) af))) (fun _ _ _ _ _=>dY) (fun _ _ _ _ _=>(Iv (bf (d_v 0) (jk (d_v 1) d_i)) (bf (d_v 0) (d_v 1))))) af))))
theorem HS :
  bK P' w K mg base CX0 4 sd lQ ["k"] (spD A4):=
 okQ T.Hy HK fun _ _ _ _ _ _ hr=>(aA (cK (cJ (cL (aD (Cf T) (Br.hm hr) rfl T.G3 T.Ew.kp T.Bf (aa (d_v 0) af)))) (aA jI) bQ))
theorem EO :
  bK P' w K mg base CX0 1 kR gA ["groups","a","b"] (spD tN):=
 okQ T.B0 EE fun _ _ _ _ _ _ hr=>(aA (s_r (o8 0 ["groups","a","b"] ["group"] (c_n 3 Bg rfl rfl) (d_v 0) (fun _ _ _ _ _=>dY) (fun _ _ _ _ _=>(Gb (iU hr (d_v 3) (bf (d_v 0) (d_v 2))) (bf (d_v 0) (d_v 1)) (d_v 3))))))
theorem ER :
  bK P' w K mg base CX0 1 kT gB ["layers","a","b"] (spD tO):=
 okQ T.B3 se fun _ _ _ _ _ _ hr=>(ak (jm Kz rfl (ID rfl T.qe (d_v 0)) (g_t rfl (bO 3 se.nd (bO 4 se.nd gb)))
  (aA (cK (jX hr (bf (d_v 4) (d_v 1)) (bf (d_v 4) (d_v 2))) (aA (s_r (b_ (d_v 3) d_i))) bQ)))
  (aA (s_r d_i)))
theorem ES :
  bK P' w K mg base CX0 5 kU gC ["n","record","k"] (spD tP):=
 okQ T.B4 gY fun _ _ _ _ _ _ hr=>(ak (s_e (aD (HS T) (Br.hm hr) rfl T.Jg T.Hy.kp T.Ez (aa (d_v 2) af)))
  (ak (Gj 3 ["n","record","k","layers","numbers","moment","a","b","number"] ["layer"] gY.nd (c_n 9 Bh rfl rfl) (Dl rfl T.dj (aa (d_v 2) af)) (fun _ _ _ _ _=>dY) (fun _ _ _ _ _=>(w_ rfl rfl T.gX rfl T.dj (aa (d_v 0) af))))
  (ak (s_a 4 gY.nd (e_ af))
  (ak (jm Kz rfl (Gr rfl T.lR (d_v 1)) (g_t rfl (bO 5 gY.nd (bO 6 gY.nd (bO 7 gY.nd gb))))
  (ak (s_a 8 gY.nd (aD (ER T) (Br.hm hr) rfl T.G5 T.B3.kp T.yG (aa (d_v 3) (aa (d_v 6) (aa (d_v 7) af)))))
  (ak (cK (z7 (d_v 8) d_i) (aA (BG 3 (jk (d_v 8) d_i) (aD (EO T) (Br.hm hr) rfl T.G4 T.B0.kp T.yF (aa (bf (d_v 3) (jk (d_v 8) d_i)) (aa (d_v 6) (aa (d_v 7) af)))))) bQ)
  (aA (oZ 4 (d_v 8))))))
  (aA (s_r (Ai rfl rfl T.gX rfl T.lR (d_v 4))))))))
theorem yX :
  bK P' w K mg base CX0 6 kW gD ["n","thing"] (spD fY):=by
 refine T.yH.ok EF (fun vs H Q E h=>iQ h) (fun cdv A outer s H vs Q E hr h=>?_);obtain⟨iI,qi⟩:=T.lS;exact ⟨_,(ak (cK (t_w (w_or (cJ (cL (aD (HM T) (Br.hm hr) rfl T.Jb T.Ht.kp T.EA (aa (d_v 0) af)))) (w_or (cJ (cL (ir jY (by rfl) rfl T.gX rfl T.bH (d_v 1)))) (jl (z7 (fX rfl T.fE (aa (d_v 1) af)) (d_g rfl qi)))))) (aA (s_r d_b)) bQ)
  (ak (cK (cJ (cL (wQ rfl rfl T.yw (aa (o8 1 ["n","thing"] ["tie"] (c_n 2 Bj rfl rfl) (d_v 1) (fun _ _ _ _ _=>dY) (fun _ _ _ _ _=>(aD (HQ T) (Br.hm hr) rfl T.Je T.Hw.kp T.EB (aa (d_v 0) (aa (d_v 2) af))))) af)))) (aA (s_r d_b)) bQ)
  (aA (s_r (aD (HR T) (Br.hm hr) rfl T.Jf T.Hx.kp T.EC (aa (o8 1 ["n","thing"] ["tie"] (c_n 2 Bk rfl rfl) (d_v 1) (fun _ _ _ _ _=>dY) (fun _ _ _ _ _=>(bf (d_v 2) d_i))) af)))))),wB (n:=2) (m:=0) rfl h⟩
theorem sr :
  bK P' w K mg base CX0 7 kX gE ["thing"] (spD cF):=
 okQ T.uo EG fun _ _ _ _ _ _ hr=>(ak (cK (t_w (w_or (cJ (cL (ir kit_tuple (by rfl) rfl T.n8 rfl T.bH (d_v 0)))) (jl (jX hr (fX rfl T.fE (aa (d_v 0) af)) d_i)))) (aA (s_r d_b)) bQ)
  (ak (cK (t_w (w_or (cJ (cL (aD (Cf T) (Br.hm hr) rfl T.G3 T.Ew.kp T.Bf (aa (bf (d_v 0) d_i) af)))) (jl (cJ (cL (aD (yX T) (Br.hm hr) rfl T.BW T.yH.kp T.um (aa (bf (d_v 0) d_i) (aa (bf (d_v 0) d_i) af)))))))) (aA (s_r d_b)) bQ)
  (aA (s_r (Ga hr d_i (aD (ES T) (Br.hm hr) rfl T.G6 T.B4.kp T.yI (aa (bf (d_v 0) d_i) (aa (bf (d_v 0) d_i) (aa (bf (d_v 0) d_i) af)))))))))
theorem ET :
  bK P' w K mg base CX0 8 kY gF ["thing"] (spD tQ):=
 okQ T.B5 EH fun _ _ _ _ _ _ hr=>(aA (cK (cJ (cL (aD (sr T) (Br.hm hr) rfl T.yz T.uo.kp T.qf (aa (d_v 0) af)))) (aA jI) bQ))
theorem su :
  bK P' w K mg base CX0 1 kZ gG ["record"] (spD mT):=by
 refine T.uq.ok EI (fun vs H Q E h=>iQ h) (fun cdv A outer s H vs Q E hr h=>?_);obtain⟨dc,dJ⟩:=T.dU;exact ⟨_,(ak (cK (iU hr (fX rfl T.fE (aa (d_v 0) af)) d_i) (aA (s_r (D9 rfl dJ))) bQ)
  (aA (s_r (rE d_s (o8 0 ["record"] ["moment","a","b"] (c_t rfl (fun _ _ _ _ _=>(bO 1 n_ (bO 2 n_ (bO 3 n_ gb))))) (d_v 0) (fun _ _ _ _ _=>dY) (fun _ _ _ _ _=>(IT (.cons (xG (d_v 1)) (.cons d_s (.cons (xG (d_v 2)) (.cons d_s (.cons (xG (d_v 3)) .nil)))))))))))),wB (n:=1) (m:=0) rfl h⟩
theorem EU :
  bK P' w K mg base CX0 9 k7 gH ["net"] (spD tR):=
 okQ T.B6 EJ fun _ _ _ _ _ _ hr=>(ak (s_e (aD (ET T) (Br.hm hr) rfl T.G7 T.B5.kp T.yJ (aa (d_v 0) af)))
  (aA (s_r (rE d_s (e_ (aa (gh hr rfl T.jy (aa (bf (d_v 0) d_i) af)) (aa (gh hr rfl T.jy (aa (bf (d_v 0) d_i) af)) (aa (aD (su T) (Br.hm hr) rfl T.yC T.uq.kp T.qg (aa (bf (d_v 0) d_i) af)) af))))))))
theorem gZ :
  bK P' w K mg base CX0 1 k8 gI ["word"] (spD cG):=by
 refine T.jz.ok EK (fun vs H Q E h=>iQ h) (fun cdv A outer s H vs Q E hr h=>?_);obtain⟨lV,vG⟩:=T.n9;obtain⟨eY,lW⟩:=T.iG;exact ⟨_,(ak (cK (t_w (w_or (cJ (Ak oJ oW oJ oW d_i (D7 rfl T.fE (aa (d_v 0) af)) (d_g rfl lW))) (jl (cJ (cL (wQ rfl rfl T.yw (aa (Ac ["word"] ["sign"] (c_n 1 Bl rfl rfl) (IS (d_v 0)) (fun _ _ _ _ _=>dY) (fun _ _ _ _ _=>(GH (d_v 1) (D9 rfl vG)))) af))))))) (aA (s_r d_n)) bQ)
  (ak (cK (t_w (w_and (iU hr (GI (d_v 0) d_i) d_s) (Dj (jX hr (d_v 0) d_s)))) (aA (s_r d_n)) bQ)
  (aA (s_r (D8 rfl T.yx (aa (d_v 0) af)))))),wB (n:=1) (m:=0) rfl h⟩
theorem EV :
  bK P' w K mg base CX0 2 k9 gJ ["word"] (spD tS):=
 okQ T.B7 sj fun _ _ _ _ _ _ hr=>(ak (s_a 1 sj.nd (i8 (d_v 0) d_s))
  (ak (s_a 2 sj.nd (i8 (bf (d_v 1) d_i) d_s))
  (aA (s_r (e9 (aa (aD (gZ T) (Br.hm hr) rfl T.lT T.jz.kp T.iH (aa (bf (d_v 1) d_i) af)) (aa (aD (gZ T) (Br.hm hr) rfl T.lT T.jz.kp T.iH (aa (bf (d_v 2) d_i) af)) (aa (aD (gZ T) (Br.hm hr) rfl T.lT T.jz.kp T.iH (aa (bf (d_v 2) d_i) af)) af))))))))
theorem sy :
  bK P' w K mg base CX0 3 k_ gK ["text"] (spD eX):=by
 refine T.ur.ok EL (fun vs H Q E h=>iQ h) (fun cdv A outer s H vs Q E hr h=>?_);obtain⟨dc,dJ⟩:=T.dU;exact ⟨_,(ak (cK (iU hr (d_v 0) (D9 rfl dJ)) (aA (s_r (e_ af))) bQ)
  (aA (s_r (Ac ["text"] ["word"] (c_n 1 Bm rfl rfl) (i_S (AI (d_v 0) d_s)) (fun _ _ _ _ _=>dY) (fun _ _ _ _ _=>(aD (EV T) (Br.hm hr) rfl T.G9 T.B7.kp T.yK (aa (d_v 1) af))))))),wB (n:=1) (m:=0) rfl h⟩
theorem yY :
  bK P' w K mg base CX0 7 lg gM ["n","text"] (spD pP):=
 okQ T.yL yV fun _ _ _ _ _ _ hr=>(ak (s_a 2 yV.nd (aD (sy T) (Br.hm hr) rfl T.yD T.ur.kp T.qh (aa (d_v 1) af)))
  (ak (cK (cJ (cL (aD (yX T) (Br.hm hr) rfl T.BW T.yH.kp T.um (aa (d_v 0) (aa (d_v 2) af))))) (aA jI) bQ)
  (aA (s_r (d_v 2)))))
theorem EW :
  bK P' w K mg base CX0 8 jx fD ["text"] (spD tT):=
 okQ T.uu fF fun _ _ _ _ _ _ hr=>(ak (s_a 1 fF.nd (i8 (d_v 0) d_s))
  (ak (s_a 2 fF.nd (i8 (bf (d_v 1) d_i) d_s))
  (ak (s_a 3 fF.nd (e9 (aa (aD (gZ T) (Br.hm hr) rfl T.lT T.jz.kp T.iH (aa (bf (d_v 1) d_i) af)) (aa (aD (gZ T) (Br.hm hr) rfl T.lT T.jz.kp T.iH (aa (bf (d_v 2) d_i) af)) (aa (aD (sy T) (Br.hm hr) rfl T.yD T.ur.kp T.qh (aa (bf (d_v 2) d_i) af)) af)))))
  (ak (cK (cJ (cL (aD (sr T) (Br.hm hr) rfl T.yz T.uo.kp T.qf (aa (d_v 3) af)))) (aA jI) bQ)
  (aA (s_r (d_v 3)))))))
theorem oh :
  bK P' w K mg base CX0 8 jx fD ["text"] (spP dQ):=by
 refine T.uu.ok fF (fun vs H Q E h=>tH h) (fun cdv A outer s H vs Q E hr h=>?_);exact ⟨_,(dZ (s_a 1 fF.nd (i8 (d_v 0) d_s))
  (dZ (s_a 2 fF.nd (i8 (bf (d_v 1) d_i) d_s))
  (Ed 3 fF.nd (BL (xr (p_o (aD (gZ T) (Br.hm hr) rfl T.lT T.jz.kp T.iH (aa (bf (d_v 1) d_i) af))) (xr (p_o (aD (gZ T) (Br.hm hr) rfl T.lT T.jz.kp T.iH (aa (bf (d_v 2) d_i) af))) (xr (p_o (aD (sy T) (Br.hm hr) rfl T.yD T.ur.kp T.qh (aa (bf (d_v 2) d_i) af))) Gy))))
  (h_c (IK (cJ (cL (aD (sr T) (Br.hm hr) rfl T.yz T.uo.kp T.qf (aa (d_v 3) af)))) (GD AO) GC)
  Ec)))),BN (n:=1) (m:=3) rfl h⟩
theorem EX :
  bK P' w K mg base CX0 1 lq gO ["cell","k"] (spD tU):=
 okQ T.B8 sq fun _ _ _ _ _ _ hr=>(ak (s_a 2 sq.nd (bJ (eE (b_ (b_ (bJ (d_v 0) d_i) (eE d_i (d_v 1))) d_i) d_i) d_i))
  (ak (s_a 2 sq.nd (bJ (b_ (bJ (eE (d_v 2) (d_v 2)) d_i) (eE d_i (d_v 1))) d_i))
  (aA (s_r (bJ (eE (d_v 2) d_i) d_i)))))
theorem EY :
  bK P' w K mg base CX0 2 lu gP ["cell","many","base"] (spD tW):=
 okQ T.B9 eu fun _ _ _ _ _ _ hr=>(ak (s_a 3 eu.nd (e_ af))
  (ak (s_a 4 eu.nd (jk (d_v 0) (mJ d_i d_i)))
  (ak (jm Kz rfl (Dl rfl T.dj (aa (d_v 1) af)) (g_n 5 eu.nd)
  (ak (s_a 6 eu.nd (d_v 4))
  (ak (cK (z7 (d_v 4) d_i) (aA (s_a 4 eu.nd (fW (d_v 4) (d_v 2)))) (ak (s_a 6 eu.nd d_i)
  (ak (s_a 7 eu.nd d_i)
  (aA (IA 100 Kz (Iz (eE (d_v 7) d_i) (b_ (Dy (d_v 2)) d_i))
  (ak (s_a 6 eu.nd (b_ (eE (d_v 6) d_i) (aD (EX T) (Br.hm hr) rfl T.G_ T.B8.kp T.yM (aa (d_v 0) (aa (b_ (eE d_i (d_v 5)) (d_v 7)) af)))))
  (aA (s_a 7 eu.nd (b_ (d_v 7) d_i)))))))))
  (aA (oZ 3 (bJ (d_v 6) (d_v 2)))))))
  (aA (s_r (d_v 3))))))
theorem EZ :
  bK P' w K mg base CX0 1 ly gQ ["n","kind","one","other"] (spD tX):=
 okQ T.B_ yW fun _ _ _ _ _ _ hr=>(ak (s_a 4 yW.nd (bJ (d_v 2) (d_v 0)))
  (ak (cK (iU hr (d_v 1) d_i) (aA (s_r (e9 (aa (d_v 4) (aa (bJ (d_v 3) (d_v 0)) af))))) bQ)
  (ak (cK (iU hr (d_v 1) d_i) (aA (s_r (e9 (aa (bJ (d_v 2) (rj rfl rfl T.uh (aa (d_v 0) (aa d_i af)))) (aa (bJ (d_v 3) (rj rfl rfl T.uh (aa (d_v 0) (aa d_i af)))) af))))) bQ)
  (ak (cK (iU hr (d_v 1) d_i) (aA (s_r (e9 (aa (d_v 4) (aa (bJ (b_ (b_ (d_v 4) d_i) (fW (bJ (d_v 3) d_i) d_i)) (d_v 0)) af))))) bQ)
  (aA (s_r (e9 (aa (d_v 4) (aa (bJ (b_ (d_v 4) (eE d_i (bJ (d_v 3) (d_v 0)))) (d_v 0)) af)))))))))
theorem lX :
  bK P' w K mg base CX0 2 lz gR ["numbers","most"] (spP cT):=by
 refine T.Ca.ok c_ (fun vs H Q E h=>tH h) (fun cdv A outer s H vs Q E hr h=>?_);exact ⟨_,(dZ (s_a 2 c_.nd (b_ d_i (bJ (bf (d_v 0) d_i) d_i)))
  (dZ (cK (iU hr (bJ (fW (bf (d_v 0) d_i) d_i) d_i) d_i) (aA (s_a 2 c_.nd (b_ d_i (bJ (fW (bf (d_v 0) d_i) d_i) d_i)))) bQ)
  (dZ (s_a 3 c_.nd (bJ (bf (d_v 0) d_i) d_i))
  (dZ (cK (iU hr (bJ (fW (bf (d_v 0) d_i) d_i) d_i) d_i) (aA (s_a 3 c_.nd (b_ d_i (bJ (fW (bf (d_v 0) d_i) d_i) d_i)))) bQ)
  (dZ (s_a 4 c_.nd (bf (e_ (aa d_i (aa d_i (aa (mJ d_i d_i) af)))) (bJ (bf (d_v 0) d_i) d_i)))
  (dZ (s_a 5 c_.nd (bf (e_ (aa d_i (aa (bJ (fW (bf (d_v 0) d_i) d_i) d_i) (aa (bJ (bf (d_v 0) d_i) (mJ d_i d_i)) af)))) (bJ (fW (bf (d_v 0) d_i) d_i) d_i)))
  (dZ (s_a 6 c_.nd (e_ af))
  (dZ (jm Kz rfl (Dl rfl T.dj (aa (Dv rfl rfl T.uh (aa (d_v 3) (aa (d_v 1) (aa (fW (jk (fX rfl T.fE (aa (d_v 0) af)) d_i) d_i) af)))) af)) (g_n 7 c_.nd)
  (ak (s_u rfl (bO 8 c_.nd (bO 9 c_.nd gb)) (aD (EZ T) (Br.hm hr) rfl T.Hh T.B_.kp T.yN (aa (d_v 2) (aa (bJ (bf (d_v 0) d_i) d_i) (aa (bf (d_v 0) (b_ d_i (eE d_i (d_v 7)))) (aa (bf (d_v 0) (b_ d_i (eE d_i (d_v 7)))) af))))))
  (ak (oZ 6 (e9 (aa (d_v 5) (aa (rj rfl rfl T.uh (aa (d_v 8) (aa (d_v 9) af))) (aa (Dh rfl rfl T.GZ (aa (d_v 8) (aa (d_v 9) af))) af)))))
  (aA (s_a 5 c_.nd (b_ (b_ (d_v 5) d_i) (bJ (bf (d_v 0) (b_ d_i (eE d_i (d_v 7)))) (d_v 4))))))))
  (q_r (BL (xr (p_o (d_v 2)) (xr (p_o (d_v 6)) Gy)))))))))))),BN (n:=2) (m:=8) rfl h⟩
theorem E1 :
  bK P' w K mg base CX0 1 lA gS ["number"] (spD pQ):=
 okQ T.Cb EM fun _ _ _ _ _ _ hr=>(aA (s_r (bf (e_ (aa (b_ d_i (bJ (d_v 0) d_i)) (aa (b_ d_i (bJ (fW (d_v 0) d_i) d_i)) af))) (Gi rfl T.yx (aa (F_ hr (bJ (d_v 0) d_i) d_i) af)))))
theorem E2 :
  bK P' w K mg base CX0 1 lB gT ["n","ties","a","b"] (spD tY):=
 okQ T.Cc fG fun _ _ _ _ _ _ hr=>(ak (s_a 4 fG.nd (w_ rfl rfl T.gX rfl T.dj (aa (d_v 0) af)))
  (ak (jm Kz rfl (i_S (d_v 1)) (g_t rfl (bO 5 fG.nd (bO 6 fG.nd (bO 7 fG.nd gb))))
  (ak (s_a 8 fG.nd (bf (d_v 4) (d_v 6)))
  (ak (s_a 9 fG.nd (bf (d_v 4) (d_v 7)))
  (aA (Gu 4 4 ["n","ties","a","b","marks","moment","one","other","old","new"] ["mark"] fG.nd (c_n 10 Bo rfl rfl) (d_v 4) (fun _ _ _ _ _=>dY) (fun _ _ _ _ _=>(Gb (iU hr (d_v 10) (d_v 8)) (d_v 9) (d_v 10))))))))
  (aA (s_r (F_ hr (bf (d_v 4) (d_v 2)) (bf (d_v 4) (d_v 3)))))))
theorem E3 :
  bK P' w K mg base CX0 2 lC gU ["n","record","k"] (spD tZ):=
 okQ T.Cd lU fun _ _ _ _ _ _ hr=>(ak (s_a 3 lU.nd (eE (e_ (aa d_i af)) (fX rfl T.fE (aa (d_v 1) af))))
  (ak (jm Kz rfl (Gs rfl T.dj (aa (jk (fX rfl T.fE (aa (d_v 1) af)) d_i) (aa (wJ d_i) (aa (wJ d_i) af)))) (g_n 4 lU.nd)
  (aA (jm Kz rfl (Gs rfl T.dj (aa (d_v 2) (aa d_i (aa (wJ d_i) af)))) (g_n 5 lU.nd)
  (ak (Gj 6 ["n","record","k","numbers","at","j","ties"] ["later"] lU.nd (c_n 7 Bp rfl rfl) (Ge rfl T.dj (aa (b_ (d_v 4) d_i) (aa (fX rfl T.fE (aa (d_v 1) af)) af))) (fun _ _ _ _ _=>wO (iU hr (bf (d_v 3) (d_v 7)) (d_v 5))) (fun _ _ _ _ _=>(bf (d_v 1) (d_v 7))))
  (aA (cK (cJ (cL (aD (E2 T) (Br.hm hr) rfl T.Ho T.Cc.kp T.yO (aa (d_v 0) (aa (d_v 6) (aa (bf (bf (d_v 1) (d_v 4)) d_i) (aa (bf (bf (d_v 1) (d_v 4)) d_i) af))))))) (aA (BG 3 (d_v 4) (d_v 5))) bQ))))))
  (aA (s_r (d_v 3)))))
theorem yZ :
  bK P' w K mg base CX0 1 lD gW ["record"] (spD pR):=
 okQ T.yP EN fun _ _ _ _ _ _ hr=>(ak (cK (iU hr (d_v 0) (e_ af)) (aA (s_r d_s)) bQ)
  (aA (s_r (rE d_s (o8 0 ["record"] ["tie"] (c_n 1 Bq rfl rfl) (d_v 0) (fun _ _ _ _ _=>dY) (fun _ _ _ _ _=>(fk (fk (fk (fk (gh hr rfl T.jy (aa (bf (d_v 1) d_i) af)) d_s) (gh hr rfl T.jy (aa (bf (d_v 1) d_i) af))) d_s) (gh hr rfl T.jy (aa (bf (d_v 1) d_i) af)))))))))
theorem E4 :
  bK P' w K mg base CX0 10 lE je ["script"] (spD ko):=
 okQ T.Hz cR fun _ _ _ _ _ _ hr=>(ak (jm Kz rfl (i_S (b_ (Gh (d_v 0) o_n (o_s d_i)) (e_ (aa (fX rfl T.fE (aa (d_v 0) af)) af)))) (g_n 1 cR.nd)
  (ak (s_a 2 cR.nd (aD (EY T) (Br.hm hr) rfl T.Hg T.B9.kp T.yR (aa (d_v 1) (aa d_i (aa (mJ d_i d_i) af)))))
  (ak (AQ 3 4 rfl (lX T) (Br.hm hr) rfl T.Hj T.Ca.kp T.yS (bO 3 cR.nd (bO 4 cR.nd gb)) (aa (Gh (d_v 2) (o_s d_i) o_n) (aa d_i af)))
  (ak (cK (iU hr (bJ (bf (d_v 2) d_i) d_i) d_i) (aA (oZ 4 (e9 (aa (mJ d_i d_i) (aa d_i (aa (jk (d_v 3) d_i) af)))))) bQ)
  (ak (s_a 5 cR.nd (aD (E1 T) (Br.hm hr) rfl T.Hl T.Cb.kp T.yT (aa (bf (d_v 2) d_i) af)))
  (ak (s_a 6 cR.nd (Di rfl T.gX (aa (d_v 4) af)))
  (ak (s_a 7 cR.nd (aD (yZ T) (Br.hm hr) rfl T.BZ T.yP.kp T.ux (aa (d_v 4) af)))
  (ak (cK (t_w (w_or (jX hr (aD (su T) (Br.hm hr) rfl T.yC T.uq.kp T.qg (aa (d_v 6) af)) (d_v 7)) (w_or (jX hr (d_v 6) (d_v 4)) (jl (cJ (cL (ir AJ (by rfl) rfl T.jy rfl T.bH (aD (su T) (Br.hm hr) rfl T.yC T.uq.kp T.qg (aa (d_v 6) af))))))))) (aA (s_r d_b)) bQ)
  (ak (s_a 8 cR.nd (aD (yY T) (Br.hm hr) rfl T.BX T.yL.kp T.uv (aa (d_v 3) (aa (d_v 7) af))))
  (ak (cK (t_w (w_or (cJ (cL (ir jY (by rfl) rfl T.gX rfl T.bH (d_v 8)))) (jl (jX hr (d_v 8) (d_v 4))))) (aA (s_r d_b)) bQ)
  (ak (oZ 8 (e9 (aa d_i (aa d_i (aa d_i af)))))
  (ak (cK (jX hr (aD (yY T) (Br.hm hr) rfl T.BX T.yL.kp T.uv (aa (d_v 3) (aa (d_v 7) af))) (d_v 4)) (aA (s_r d_b)) bQ)
  (ak (s_a 9 cR.nd (aD (E3 T) (Br.hm hr) rfl T.Hq T.Cd.kp T.yU (aa (d_v 3) (aa (d_v 4) (aa (d_v 5) af)))))
  (ak (s_a 10 cR.nd (e9 (aa (d_v 3) (aa (d_v 5) (aa (Ac ["script","cell","numbers","n","record","k","handed","text","found","told","net"] ["tie","number"] (c_t rfl (fun _ _ _ _ _=>(bO 11 uy (bO 12 uy gb)))) (Gv rfl T.G0 (aa (d_v 4) (aa (d_v 9) af))) (fun _ _ _ _ _=>wO (z7 (d_v 12) d_i)) (fun _ _ _ _ _=>(d_v 11))) af)))))
  (ak (s_a 7 cR.nd (fk (fk (fk (fk (gh hr rfl T.jy (aa (d_v 3) af)) d_s) (gh hr rfl T.jy (aa (d_v 5) af))) d_s) (aD (yZ T) (Br.hm hr) rfl T.BZ T.yP.kp T.ux (aa (bf (d_v 10) d_i) af))))
  (ak (cK (jX hr (aD (EU T) (Br.hm hr) rfl T.G8 T.B6.kp T.yQ (aa (d_v 10) af)) (d_v 7)) (aA (s_r d_b)) bQ)
  (Aq 8 cR.nd (oh T) (Br.hm hr) rfl T.BY T.uu.kp T.uw (aa (d_v 7) af)
  (II (t_w (w_or (cJ (cL (ir kit_tuple (by rfl) rfl T.n8 rfl T.bH (d_v 8)))) (w_or (jX hr (d_v 8) (d_v 10)) (jl (cJ (cL (ir jY (by rfl) rfl T.gX rfl T.bH (bf (d_v 8) d_i)))))))) (aA (s_r d_b))
  (GN 2 (e9 (aa d_i (aa d_i (aa d_i af))))
  (aA (cK (jX hr (aD (EW T) (Br.hm hr) rfl T.BY T.uu.kp T.uw (aa (d_v 7) af)) (d_v 10)) (aA (s_r d_b)) bQ)))))))))))))))))))))
  (aA (s_r d_b)))
end
theorem all_mk{l:L1}{w:World}{K:Js}{h:Heap}{mg:Str->Option Value}{fa rT rV rW rX rY rZ r8 r9 r_ sd kR kT kU kW kX kY kZ k7 k8 k9 k_ lg jx lq lu ly lz lA lB lC lD lE:Addr}{lF lG lH lI lJ lM lN lO lP lQ gA gB gC gD gE gF gG gH gI gJ gK gM fD gO gP gQ gR gS gT gU gW je:FuncData}(X:K.In h)(G:h.Ns mainGlobals mg)(hfa:mg "law" = some (.ref fa))
  {lV:Tok}
  {eY:Tok}
  {iI:Tok}
  {dc:Tok}
  (y9:b4 K "is_whole" (top 6) rT lF)
  (y_:b4 K "is_within" (top 7) rV lG)
  (zb:b4 K "is_places" (top 8) rW lH)
  (zc:b4 K "is_place" (top 9) rX lI)
  (zd:b4 K "is_layers" (top 10) rY lJ)
  (ze:b4 K "is_moment" (top 11) rZ lM)
  (zf:b4 K "is_tie_either_way" (top 12) r8 lN)
  (zg:b4 K "is_tie" (top 13) r9 lO)
  (zh:b4 K "is_rising" (top 14) r_ lP)
  (zj:b4 K "look_at_layers" (top 15) sd lQ)
  (qj:b4 K "merged" (top 17) kR gA)
  (qk:b4 K "least_layer" (top 20) kT gB)
  (ql:b4 K "layered" (top 19) kU gC)
  (qm:b4 K "is_record" (top 23) kW gD)
  (qo:b4 K "is_net" (top 25) kX gE)
  (qp:b4 K "look_at_net" (top 26) kY gF)
  (qq:b4 K "record_text" (top 31) kZ gG)
  (qt:b4 K "net_text" (top 32) k7 gH)
  (qu:b4 K "read_number" (top 37) k8 gI)
  (qv:b4 K "read_tie" (top 36) k9 gJ)
  (qw:b4 K "read_ties" (top 35) k_ gK)
  (qx:b4 K "read_record" (top 33) lg gM)
  (qy:b4 K "read_net" (top 34) jx fD)
  (qz:b4 K "_law_mixed" (top 39) lq gO)
  (qA:b4 K "_law_numbers" (top 40) lu gP)
  (qB:b4 K "_law_ends" (top 41) ly gQ)
  (qC:b4 K "_law_record" (top 42) lz gR)
  (qD:b4 K "_law_depth" (top 43) lA gS)
  (qE:b4 K "_law_joined" (top 44) lB gT)
  (qF:b4 K "_law_numbered" (top 45) lC gU)
  (qG:b4 K "_law_text" (top 46) lD gW)
  (mY:b4 K "law" (top 47) lE je)
  (zk:J4 K mainGlobals "all" = some none)
  (sC:J4 K mainGlobals "bool" = some none)
  (fH:J4 K mainGlobals "enumerate" = some none)
  (zl:J4 K mainGlobals "int" = some none)
  (eU:J4 K mainGlobals "isinstance" = some none)
  (zm:J4 K mainGlobals "len" = some none)
  (sD:J4 K mainGlobals "list" = some none)
  (zo:J4 K mainGlobals "max" = some none)
  (zp:J4 K mainGlobals "min" = some none)
  (oj:J4 K mainGlobals "range" = some none)
  (g6:J4 K mainGlobals "reversed" = some none)
  (zq:J4 K mainGlobals "str" = some none)
  (oq:J4 K mainGlobals "tuple" = some none)
  (zu:J4 K mainGlobals "zip" = some none)
  (jf:J4 K mainGlobals "FIGURES" = some (some (.str ⟨([48,49,50,51,52,53,54,55,56,57]:List Nat).toArray⟩ lV)))
  (dM:J4 K mainGlobals "MOST_FIGURES" = some (some (.int 60 eY)))
  (fJ:J4 K mainGlobals "MOST_TIES" = some (some (.int 60 iI)))
  (dN:J4 K mainGlobals "WITHOUT_TIES" = some (some (.str ⟨([110,111,110,101]:List Nat).toArray⟩ dc))) :
  ∃fd:FuncData,(∀(s:Shared) (v:Value),BindsTo s fd ⟨[v],[]⟩ [("script",v)])/\∀base:Heap,K.In base->base.Ns mainGlobals mg->bK l.prog w K mg base CX0 10 fa fd ["script"] (spD ko):=by
 have e:=hfa.symm.trans (mY.m X G);cases e;have Et:=y9.F.ck (ps:=["thing"]) rfl fun _ _ _ _ _ _ _=>rfl;have vF:=y_.F.iW (ps:=["thing","low","high"]) rfl fun _ _ _ _ _ _ _ _ _=>rfl;have EA:=zb.F.ck (ps:=["thing"]) rfl fun _ _ _ _ _ _ _=>rfl;have Be:=zc.F.gf (ps:=["n","thing"]) rfl fun _ _ _ _ _ _ _ _=>rfl;have Bf:=zd.F.ck (ps:=["thing"]) rfl fun _ _ _ _ _ _ _=>rfl;have Ex:=ze.F.ck (ps:=["thing"]) rfl fun _ _ _ _ _ _ _=>rfl;have Ey:=zf.F.gf (ps:=["n","thing"]) rfl fun _ _ _ _ _ _ _ _=>rfl;have EB:=zg.F.gf (ps:=["n","thing"]) rfl fun _ _ _ _ _ _ _ _=>rfl;have EC:=zh.F.ck (ps:=["things"]) rfl fun _ _ _ _ _ _ _=>rfl;have Ez:=zj.F.ck (ps:=["k"]) rfl fun _ _ _ _ _ _ _=>rfl;have yF:=qj.F.iW (ps:=["groups","a","b"]) rfl fun _ _ _ _ _ _ _ _ _=>rfl;have yG:=qk.F.iW (ps:=["layers","a","b"]) rfl fun _ _ _ _ _ _ _ _ _=>rfl;have yI:=ql.F.iW (ps:=["n","record","k"]) rfl fun _ _ _ _ _ _ _ _ _=>rfl;have um:=qm.F.gf (ps:=["n","thing"]) rfl fun _ _ _ _ _ _ _ _=>rfl;have qf:=qo.F.ck (ps:=["thing"]) rfl fun _ _ _ _ _ _ _=>rfl;have yJ:=qp.F.ck (ps:=["thing"]) rfl fun _ _ _ _ _ _ _=>rfl;have qg:=qq.F.ck (ps:=["record"]) rfl fun _ _ _ _ _ _ _=>rfl;have yQ:=qt.F.ck (ps:=["net"]) rfl fun _ _ _ _ _ _ _=>rfl;have iH:=qu.F.ck (ps:=["word"]) rfl fun _ _ _ _ _ _ _=>rfl;have yK:=qv.F.ck (ps:=["word"]) rfl fun _ _ _ _ _ _ _=>rfl;have qh:=qw.F.ck (ps:=["text"]) rfl fun _ _ _ _ _ _ _=>rfl;have uv:=qx.F.gf (ps:=["n","text"]) rfl fun _ _ _ _ _ _ _ _=>rfl;have uw:=qy.F.ck (ps:=["text"]) rfl fun _ _ _ _ _ _ _=>rfl;have yM:=qz.F.gf (ps:=["cell","k"]) rfl fun _ _ _ _ _ _ _ _=>rfl;have yR:=qA.F.iW (ps:=["cell","many","base"]) rfl fun _ _ _ _ _ _ _ _ _=>rfl;have yN:=qB.F.xo (ps:=["n","kind","one","other"]) rfl fun _ _ _ _ _ _ _ _ _ _=>rfl;have yS:=qC.F.gf (ps:=["numbers","most"]) rfl fun _ _ _ _ _ _ _ _=>rfl;have yT:=qD.F.ck (ps:=["number"]) rfl fun _ _ _ _ _ _ _=>rfl;have yO:=qE.F.xo (ps:=["n","ties","a","b"]) rfl fun _ _ _ _ _ _ _ _ _ _=>rfl;have yU:=qF.F.iW (ps:=["n","record","k"]) rfl fun _ _ _ _ _ _ _ _ _=>rfl;have ux:=qG.F.ck (ps:=["record"]) rfl fun _ _ _ _ _ _ _=>rfl;refine⟨_,fun s v=>mY.IL (fun _ _ _ _ _ _ _=>rfl) s v,fun base Xb _=>?_⟩;have T:Txt mg K base ..:=⟨mno X G zk,mno X G sC,mno X G fH,mno X G zl,mno X G eU,mno X G zm,mno X G sD,mno X G zo,mno X G zp,mno X G oj,mno X G g6,mno X G zq,mno X G oq,mno X G zu,⟨_,mgo X G jf⟩,⟨_,mgo X G dM⟩,⟨_,mgo X G fJ⟩,⟨_,mgo X G dN⟩,y9.m X G,y_.m X G,zb.m X G,zc.m X G,zd.m X G,ze.m X G,zf.m X G,zg.m X G,zh.m X G,zj.m X G,qj.m X G,qk.m X G,ql.m X G,qm.m X G,qo.m X G,qp.m X G,qq.m X G,qt.m X G,qu.m X G,qv.m X G,qw.m X G,qx.m X G,qy.m X G,qz.m X G,qA.m X G,qB.m X G,qC.m X G,qD.m X G,qE.m X G,qF.m X G,qG.m X G,mY.m X G,y9.F,Et,y_.F,vF,zb.F,zc.F,zd.F,ze.F,Be,Ex,zf.F,Ey,zg.F,zh.F,Bf,zj.F,qj.F,qk.F,Ez,yF,yG,ql.F,EA,EB,EC,qm.F,yI,um,qo.F,qf,qp.F,qq.F,yJ,qg,qt.F,qu.F,iH,qv.F,yK,qw.F,qh,qx.F,qy.F,qz.F,yM,qA.F,qB.F,yN,qC.F,qD.F,qE.F,yO,qF.F,qG.F,yQ,uv,uw,yR,yS,yT,yU,ux,mY.F⟩
 exact E4 T
theorem walk{l:L1}{q:Program}{loose:List Str}{XP:(Str->Option Value)->Heap->Prop}{YP:World->Heap->Prop}{d:DefRec}{K:Params->Js}(hn:l.most=some 63)(hdf:d.params.defaults=[])
  (hY:∀(w:World) (h:Heap),YP w h->(K w.params).In h) (M:∀ns:List Int,ns.length<=63->ko [.lst (ns.map Dat.int)]=some (.val (.bl true))) (hK:∀w:World,wR (K w.params)=true)
  (F:∀ (w:World) (mg:Str→Option Value) (fa:Addr) (h:Heap),(K w.params).In h→h.Ns mainGlobals mg→mg d.name=some (.ref fa) →
   ∃fd:FuncData,(∀(s:Shared) (u:Value),BindsTo s fd ⟨[u],[]⟩ [("script",u)])/\∀base:Heap,(K w.params).In base->base.Ns mainGlobals mg->bK l.prog w (K w.params) mg base CX0 10 fa fd ["script"] (spD ko)) :
  PySem.W.WalkO q loose XP YP l.row.toRowW d [] (fun f vs=>PySem.call f vs):=
 L2.zN (n:=63) (k:=10) (x := "script") (CX:=fun _=>CX0) (sp:=fun _=>spD ko) hn (by decide) hdf ⟨rfl,by decide,by decide,rfl⟩ hY F
  (fun w H a ns hl hO hS=>Dz (M ns hl) (hK w) hS) fun _ _ _ _ _ z=>z
open PySem PySem.W PySem.W.X
theorem zv{q:Program}{loose:List Str}{XP:(Str->Option Value)->Heap->Prop}{r:RowW}{d:DefRec}{kwd:List (Str×Expr)}{run:Value->List Value->Sem Value}{K:Params->Frag}{as:List Addr}{n t:Nat}(e:∀P,as=(K P).map (·.1))
  (W:WalkO q loose XP (fun w h=>(K w.params).In h) r d kwd run):WalkX q loose XP (obsZ as) (valZ K n t) r d kwd run:=
 fun w s₀ s₁ mg mb G y a o pm cd doc dV kV ho hd IU hD hmg hg args vals as' L=>W w s₀ s₁ mg mb G (InK.keeps w _ _ (z_facts e y).2.1 L.keeps) a o pm cd doc dV kV ho hd IU hD hmg hg args vals as'
end Q
noncomputable def PySem.W.Fast.tw9810217998711139442:PySem.Program:=PySem.Challenge.pw_sinceply_k55_records_written
theorem PySem.W.Fast.te9810217998711139442:PySem.Challenge.pw_sinceply_k55_records_written=PySem.W.Fast.tw9810217998711139442:=rfl
namespace PySem.W.Fast
def tw5897588079050717683:=0
def tw8988390897094255878:=0
def tw10916784124117991781:=0
def tw9828432789143589114:=0
def tw17181452308341998865:=0
def tw4267495690011235116:=0
def tw4866030104278280797:=0
def tw17015618358896168329:=0
def tw3281437905747435562:=0
def tw14737679761660755676:=0
def tw327455463489141100:=0
def tw5052853350357625738:=0
def tw12410700984183654687:=0
def tw6878547739280923885:=0
def tw9659246532449852184:=0
def tw16437091441505560598:=0
def tw18319310372490601615:=0
def tw15081222001415489597:=0
def tw8909161377814425856:=0
def tw1522354266846279173:=0
def tw18064347753339904283:=0
def tw3455501380232368587:=0
def tw787270070774577604:=0
def tw482224790650884387:=0
def tw7071443760478305913:=0
def tw3991665319002857226:=0
def tw320090782231896928:=0
def tw16760690382940684049:=0
def tw14972868577585202731:=0
def tw10662812446204160421:=0
def tw5122887810561663572:=0
def tw10932432491815733766:=0
def tw12332055006070905420:=0
def tw12663916578114427894:=0
def tw18039076974021224569:=0
def tw9227016146599042807:=0
def tw1787350715038816409:=0
def tw5361631801395102850:=0
def tw2991804864378286146:=0
def tw11537840914641091740:=0
def tw10324987826599630395:=0
def tw13837003583359590465:=0
def tw10415553006338483938:=0
def tw9106107174218849324:=0
def tw15660856336874687730:=0
def tw14514270715790061880:=0
def tw12820112082192148152:=0
def tw3446466834467515443:=0
def tw798159707961719707:=0
def tw5652856750210208408:=0
def tw15672749951417840779:=0
def tw1561404794088104678:=0
def tw2495340204284109814:=0
def tw9881876050537431580:=0
def tw5243979958498469610:=0
def tw10762142157180753027:=0
def tw12550311179685749478:=0
def tw12706833178630795118:=0
def tw7255205431891439282:=0
def tw9652297914095666379:=0
def tw9275577023855188193:=0
def tw8773351902531817062:=0
def tw20787617760373770:=0
def tw15437219964557370495:=0
def tw17785042316870534506:=0
def tw14874166345631700476:=0
def tw1111425495446021293:=0
def tw6343548652332398117:=0
def tw11868651702074622276:=0
def tw18352571425393360810:=0
def tw12175619548528583031:=0
def tw6160842187695841249:=0
def tw7827368351589425163:=0
def tw5244243609175125148:=0
def tw18381262553018787327:=0
def tw3778530801649739891:=0
def tw6972410603867109609:=0
def tw5103142764599520741:=0
def tw5506430224515166270:=0
def tw11372601902706932053:=0
def tw2261746319509524030:=0
def tw393255326538002409:=0
def tw10270498133886319763:=0
def tw8017763154595321415:=0
def tw7876607422628522331:=0
def tw17561050681692330244:=0
def tw12275113920702233344:=0
def tw17013190846878077995:=0
def tw4858101820236882125:=0
def tw10448313890751359679:=0
def tw14400602558121979561:=0
def tw9689585431899603172:=0
def tw9596894442877755441:=0
def tw818028202777143084:=0
def tw13574318400709077982:=0
def tw2418645484553001120:=0
def tw5830993242742018889:=0
def tw6311867199481637383:=0
def tw5220661793867818750:=0
def tw14185677849576524067:=0
def tw9254111259895291907:=0
def tw9278996348327756117:=0
def tw15404709789260241820:=0
def tw12397213078370015574:=0
def tw7381828397482336645:=0
def tw9398422177134669930:=0
def tw11033654369185143144:=0
def tw128124255082440615:=0
def tw7255293215929887695:=0
def tw3469935245638484197:=0
def tw4377548122704678124:=0
def tw488725822919056476:=0
def tw16318800243968592964:=0
def tw11912888939584101198:=0
def tw10444892684720775411:=0
def tw1136105611802566070:=0
def tw6700047982664251998:=0
def tw1920670043830573918:=0
def tw7821814770207626024:=0
def tw8221973814935646452:=0
def tw14138014381672243291:=0
def tw12360521376760400225:=0
def tw9732412571850504370:=0
def tw7086252977820997682:=0
def tw13688041684958734924:=0
def tw15112212321991671566:=0
def tw17654839730933209936:=0
def tw17334745142961926335:=0
def tw9346584125740162298:=0
def tw2552656507647329400:=0
def tw1373771801744391404:=0
def tw7867718239445352862:=0
def tw16438687969869841086:=0
def tw15134006540686848678:=0
def tw11887349536401616963:=0
def tw12499190665530736522:=0
def tw4931448124297472161:=0
def tw9710333468776705064:=0
def tw6107387298707907913:=0
def tw4698859344363821350:=0
def tw16820981639874051546:=0
def tw5932779874805257027:=0
def tw12218264710692608490:=0
def tw15628416467275357661:=0
def tw14136293615122344801:=0
def tw8553093077939591260:=0
def tw7608829064549487055:=0
def tw4274718128993394066:=0
def tw15785883451778815300:=0
def tw13035202940976206620:=0
def tw9890235428346377038:=0
def tw13032699856569874456:=0
def tw15125265781896223306:=0
def tw255103035812231979:=0
def tw5003364120905745497:=0
def tw786485847367295915:=0
def tw3964282800607929405:=0
def tw16416661957129122776:=0
def tw10091660256926985655:=0
def tw17172927223837292175:=0
def tw10934534704083235889:=0
def tw2650157365105095200:=0
def tw13299210595994785666:=0
def tw8878702893632178450:=0
def tw7017497576691219309:=0
def tw9617479720662136339:=0
def tw7093226310266201971:=0
def tw6405369212647133887:=0
def tw6101344069944160790:=0
def tw18155313462995721838:=0
def tw2880229214444970894:=0
def tw17832582102234917409:=0
def tw10424034202043265857:=0
def tw3854325526434078518:=0
def tw11388914709086642573:=0
def tw17858882444532988095:=0
def tw142581175861067087:=0
def tw18195351149019305899:=0
def tw4622674363341698703:=0
def tw14942502498401363402:=0
def tw12740446404045836248:=0
def tw16363476143493083570:=0
def tw16658734370248326598:=0
def tw6397262623190181712:=0
def tw9093773235049266918:=0
def tw8121835212973182683:=0
def tw11928439047656783934:=0
def tw115113212804186597:=0
def tw8259965778884279270:=0
def tw17929154376363164221:=0
def tw16266392492202849365:=0
def tw16995778454169007556:=0
def tw15433749378732007335:=0
def tw16207458553094722684:=0
def tw9013814544357181138:=0
def tw10764745579597287959:=0
def tw11586498932197708114:=0
def tw1201513540249946286:=0
def tw4296573440194885574:=0
def tw15688720184334998155:=0
def tw1140850975005424202:=0
def tw10186609372075086278:=0
def tw15388289288944668984:=0
def tw8586223491694371563:=0
def tw7332763699767790575:=0
def tw15756137506144720595:=0
def tw17828990134248688532:=0
def tw16879371375196681044:=0
def tw4311799305044720917:=0
def tw16753444368951294033:=0
def tw18147204050238378039:=0
def tw15925228553044672806:=0
def tw12859100983234677456:=0
def tw7709884516160087031:=0
def tw13305751844414125847:=0
def tw13400957953212407339:=0
def tw7811233590865841842:=0
def tw11740112049284288480:=0
def tw16978610792594574651:=0
def tw6386583759192992195:=0
def tw11171296376805174702:=0
def tw13532771272343853998:=0
def tw15594005472193128829:=0
def tw4944341175494118629:=0
def tw16604264456815530899:=0
def tw18416635480754403042:=0
def tw1342469403337074767:=0
def tw2767293785285927694:=0
def tw3184364467397513937:=0
def tw4170017649347628649:=0
def tw10651556200439598842:=0
def tw4005301273586605943:=0
def tw4307540865770671890:=0
def tw11332186283303107809:=0
def tw9484685638918858997:=0
def tw10661897630956542869:=0
def tw11257533250016815340:=0
def tw15424984135779910269:=0
def tw13955944899909897216:=0
def tw2222328597682692277:=0
def tw1194398213103541294:=0
def tw17120114176577081717:=0
def tw17773670711723313098:=0
def tw16078946861643997256:=0
def tw5419932589055751560:=0
def tw14092199525945840268:=0
def tw13808466039464306492:=0
def tw15264548662335953114:=0
end PySem.W.Fast
open PySem PySem.W PyProof.Rows
set_option maxRecDepth 100000 in
set_option maxHeartbeats 0 in
theorem PySem.Challenge.cw_sinceply_k55_records_written_holds : PySem.Challenge.rw_sinceply_k55_records_written.Holds := by
 w_on;o_law;z_head;(case hw=>w_witness2)
 k_fill
 refine' Q.zv (fun _=>rfl) (Q.walk (l:=PySem.Challenge.rw_sinceply_k55_records_written) rfl rfl (fun w h Y=>Y) P.math ?noL ?fnS)
 case noL=>intro w;rfl
 case fnS=>
  intro w mg fa h KX G hmg
  refine' Q.all_mk KX G hmg ?y9 ?y_ ?zb ?zc ?zd ?ze ?zf ?zg ?zh ?zj ?qj ?qk ?ql ?qm ?qo ?qp ?qq ?qt ?qu ?qv ?qw ?qx ?qy ?qz ?qA ?qB ?qC ?qD ?qE ?qF ?qG ?mY ?zk ?sC ?fH ?zl ?eU ?zm ?sD ?zo ?zp ?oj ?g6 ?zq ?oq ?zu ?jf ?dM ?fJ ?dN
  case y9|y_|zb|zc|zd|ze|zf|zg|zh|zj|qj|qk|ql|qm|qo|qp|qq|qt|qu|qv|qw|qx|qy|qz|qA|qB|qC|qD|qE|qF|qG|mY=>refine' Br.bh ?e ?l ?c ?k;(case e=>k_is);(case l=>k_is);(case c=>k_is);(case k=>k_is)
  case zk|sC|fH|zl|eU|zm|sD|zo|zp|oj|g6|zq|oq|zu|jf|dM|fJ|dN=>k_is
end
