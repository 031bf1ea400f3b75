import PyProof.Rows.All
import Wide.All
import OpenK.AllK
import Wide.FinOn
import Lean
import PyProof.EqAt
import PyProof.EqKinds
import PyProof.TupleCall
import KE.KRevIter
import PyProof.EnumMake
import PyProof.EnumFor
import PyProof.ListRange
import PyProof.Rows.Range3
import PyProof.ZipIter
import PyProof.SumWalk
import PyProof.WalksMore
import PyProof.Rows.SetFrom
import PyProof.SetRoads
import PyProof.Rows.SortRunsK
import PyProof.Rows.SortWalk
import KE.KSortTup
import PyProof.StationsW
import PyProof.Rows.MatchSeqLen
import PyProof.RangeIter
import PyProof.Rows.Own
import OpenK.KRaise
import KE.KIsAll
import PyProof.ExcArgsOwn
import PyProof.RulesAs
import PyProof.Ns1
import PyProof.Rows.Catch
import OpenK.KOwn
import PyProof.ExcBaseAll.ValueError
import KE.KDictSum
import PyProof.AttrMiss
import PyProof.IsiH_list
import KE.KDictOf
import PyProof.DictList
import KE.KDictList
import PyProof.FactsAll.set
import PyProof.Rows.TupAdd
import KE.KDictMeth
import PyProof.DictWalks
import PyProof.TupleKey
import PyProof.DictStraight
import PyProof.IsRules
import KE.KRevSl
import PyProof.Rows.CallKwBuiltin
import PyProof.Rows.SortShell
import KE.KSortKey
import KE.KLam
import KE.KNestM
import PyProof.CallStr
import OpenK.KMake
import PyProof.ExcClass2
import PyProof.InstStoreFacts
import OpenK.KCls
import PyProof.DictRoadsH
import PyProof.DictUpdate
import PyProof.DictCopy
import PyProof.MeetsDictList
import PyProof.FactsAll.tuple_1
import PyProof.TupleOfSeq
import KE.KSortAsk
import PyProof.Rows.StrLawsPart
import PyProof.StrLawsChain
import PyProof.StrBlockL
import PyProof.SliceStr2
import PyProof.StrOps2
import PyProof.StrWalks
import PyProof.StrCalls2
import KE.KIntText
import KE.IntTextLaws
import PyProof.Rows.FStrParts
import PySem.Challenge.RW_sinceply_k30_small_cuts_told
open Array renaming length_toList→KR,toList_append→K2,size_push→Lb,getElem?_toList→LL,toList_extract→LP,perm_iff_toList_perm→LV,toList_reverse→Mi,size_extract→Ms,toList_push→Mv,size_append→MQ
open Bool renaming and_eq_true→K5,false_ne_true→K7,false_eq_true→L7,or_eq_true→NL,and_true→N2
open False renaming elim→K9
open ForInStep renaming done→Lj,yield→LJ
open Int renaming toNat_natCast→MT,zero_add→NC
open List renaming getElem?_set_ne→gc,length_map→gp,getElem?_eq_some_iff→pe,replicate→Dk,mem_cons_of_mem→Kw,size_toArray→Ky,mem_cons_self→Kz,map_cons→KA,mem_cons→KD,getElem?_eq_getElem→KG,getElem?_append_left→KH,getElem?_append_right→KI,length_append→KL,mem_append_right→KQ,mem_singleton→KS,getElem?_set_self→KW,range→KY,getElem?_map→KZ,mem_append→K3,append_nil→K4,length_set→K8,pairwise_append→La,set_append_right→Lf,length_take→Lh,length_cons→Li,length_range→Lk,lookup_cons→Ll,getElem?_replicate→Lm,append_assoc→Ln,drop_eq_getElem_cons→Lp,map_map→Lq,getD_eq_getElem?_getD→Lu,mem_append_left→Lv,zip_cons_cons→Lw,all_eq_true→Lx,extract_eq_take_drop→Ly,mem_map→Lz,take_of_length_le→LG,length_reverse→LH,nodup_cons→LI,nil_append→LK,pairwise_cons→LO,map_append→LS,replicate_succ→LU,filter_cons→LW,getElem?_eq_none→LX,length_filter_le→LY,mem_filter→LZ,getElem?_take_of_lt→L0,filter_eq_self→L5,of_mem_zip→Mb,length_replicate→Mc,length_singleton→Me,take_append_drop→Mg,flatten_cons→Mh,not_mem_nil→Ml,getElem?_range→Mm,reverse_append→Mn,filter_cons_of_pos→Mq,filter_cons_of_neg→Mr,getElem?_set→Mu,pairwise_map→Mw,take_left→Mz,length_drop→MA,getElem_mem→MC,reverse_reverse→MD,map_congr_left→ME,pairwise_iff_getElem→MF,getElem?_cons_succ→MO,length_eq_zero_iff→MP,nodup_append→MR,drop_eq_nil_of_le→MW,map_id→MX,all_cons→MY,drop_length→MZ,any_eq_true→M0,getElem?_reverse→M1,Perm→M3,perm_append_comm→M4,mem_of_getElem?→M7,set_set→M8,mem_of_mem_take→M9,map_eq_cons_iff→Na,filterMap_cons→Nb,getElem_of_mem→Nc,mem_range→Ng,filter_filter→Nn,filter_append→Np,Pairwise→Nr,reverse_cons→Nv,ext_getElem?→Nx,filter_congr→Ny,cons_append→ND,map_fst_zip→NH,map_snd_zip→NI,forIn_cons→NK,drop_zero→NT,take_zero→NU,nodup_nil→NV,map_drop→N1,foldl→N4,Nodup→N5
open Nat renaming lt_of_lt_of_le→KN,ne_of_lt→KP,zero_le→Lc,le_of_ble_eq_true→Ld,lt_irrefl→Ls,ne_of_gt→LM,lt_succ_of_lt→LR,le_of_eq→L3,sub_self→Ma,zero_add→My,not_lt→MB,lt_of_le_of_lt→MH,le_of_lt→M5,le_succ→Nk,add_sub_cancel→Nm,lt_succ_self→NF
open Ne renaming symm→Lg
open Prod renaming snd→Nj,fst→NY
open PyProof.Rows renaming callWith_type1→K6
open PyProof.Rows.KeyOrd renaming kle_of_klt→Lo,kle_refl→LB,kle_trans→LN
open PyProof.Rows.SortSt renaming mk'→MM
open PySem.Builtin.Int renaming intBits→Nd
open PySem.Builtin.List renaming listExtendWith→L8,listTooLong→MG
open PySem.Builtin.Range renaming rangeSize→L4
open PySem.Builtin.Tuple renaming tupleCompareSizes→Mp
open PySem.Calls renaming spliced_nil→Mt
open PySem.Data renaming cell→Nl,fields→NQ
open PySem.Expr renaming Name→N7
open PySem.F renaming plainAttrs_list→MN
open PySem.Heap renaming get?_push_of_some→Ds,lt_size→KC,get?_push_size→KU,get?_update_ne→Lr,get?_push_ne→LQ,size_update→L6,size_push→Mk,get?_update_other→MV,get?_none_of_le→M6
open PySem.NameKind renaming cell→NZ
open PySem.Obj renaming mapSeq→K0
open PySem.PassesOwn renaming never→LC
open PySem.PyData renaming eqv→LF,depthAll→Mf,eqvAll→Nq,canLayAll0→Nu
open PySem.Str renaming ofString→NB
open PySem.Value renaming ref→LD,type→ML,bool→N3,str→N6
open PySem.W renaming Frag→gb,fnOf→K1,keepIn→Le,kia_one→LA,codeIn→Mj,nsIn→MK,cellsFrom_some→MU,CodeHd→Nh,tabObj→Ni,methodObj→Nt,kat_cons→NG,instObj→NJ,kat_yes→NN,OpenLaw→NO,binds_K→NP,lookIn→NR,kitOne→NS,kla_fn→NW,noTabs→NX
open Sum renaming inl→Mx,inr→Nf
open True renaming intro→Nz
noncomputable section
set_option Elab.async false
set_option linter.all false

set_option maxRecDepth 100000
local macro_rules|`(tactic|trivial)=>`(tactic|first|exact Or.inl rfl|exact Or.inr rfl|exact Or.inr (Or.inl rfl)|exact Or.inr (Or.inr rfl)|assumption)
local macro_rules|`(tactic|and_intros)=>`(tactic|dsimp only[List.map,List.replicate,List.cons_append,List.nil_append])
namespace L2
open PySem PySem.Spec PyProof.Rows
section
variable{a b:Addr}{o:HO}{H:Hp}
noncomputable abbrev Key:=Sum Int Str
noncomputable def BG:Key->Value->Bool
 |.inl k,v=>Value.isInt k v
 |.inr x,v=>Value.isStrOf x v
noncomputable def Jp(w:World):Key->Int
 |.inl k=>hashInt k
 |.inr x=>hashStr w x
theorem bh:∀{k:Key} {v:Value},BG k v=true->(∃i t,k=Mx i/\v=Value.int i t)\/(∃x t,k=Nf x/\v=N6 x t)
 |.inl i,v,h=>by obtain⟨t,e⟩:=Value.isInt_shape (k:=i) (v:=v) h;exact .inl ⟨i,t,rfl,e⟩
 |.inr x,v,h=>by obtain⟨t,e⟩:=Value.isStrOf_shape (x:=x) (v:=v) h;exact .inr ⟨x,t,rfl,e⟩
theorem C7(a b:Int):decide ((Mx a:Key)=Mx b)=(a == b):=by
 by_cases e:a=b
 ·subst e;simp
 ·have h:¬(Mx a:Key)=Mx b:=fun q=>e (Mx.inj q);rw[decide_eq_false h];exact(beq_eq_false_iff_ne.mpr e).symm
theorem C8(a b:Str):decide ((Nf a:Key)=Nf b)=decide (a=b):=by
 by_cases e:a=b
 ·subst e;simp
 ·have h:¬(Nf a:Key)=Nf b:=fun q=>e (Nf.inj q);rw[decide_eq_false h,decide_eq_false e]
theorem C9(a:Int)(b:Str):decide ((Mx a:Key)=Nf b)=false:=decide_eq_false (fun q=>nomatch q)
theorem C_(a:Str)(b:Int):decide ((Nf a:Key)=Mx b)=false:=decide_eq_false (fun q=>nomatch q)
noncomputable def rV(prog:Program)(w:World):PySem.KeyKind prog w Key where
 is:=BG
 hash:=Jp w
 inj:=fun v a b ha hb=>by
  rcases bh ha with⟨i,t,rfl,rfl⟩ | ⟨x,t,rfl,rfl⟩
  ·rcases bh hb with⟨j,u,rfl,e⟩ | ⟨y,u,rfl,e⟩
   ·injection e with e1 _;rw[e1]
   ·exact nomatch e
  ·rcases bh hb with⟨j,u,rfl,e⟩ | ⟨y,u,rfl,e⟩
   ·exact nomatch e
   ·injection e with e1 _;rw[e1]
 byValue:=fun k v h=>by rcases bh h with⟨i,t,rfl,rfl⟩ | ⟨x,t,rfl,rfl⟩<;>rfl
 pyHash:=fun hv h=>by
  rcases bh hv with⟨i,t,rfl,rfl⟩ | ⟨x,t,rfl,rfl⟩
  ·exact wpAny_pyHash_int h
  ·exact wpAny_pyHash_str h
 eqBool:=fun hu hv h=>by
  rcases bh hu with⟨i,t,rfl,rfl⟩ | ⟨x,t,rfl,rfl⟩
  ·rcases bh hv with⟨j,u,rfl,rfl⟩ | ⟨y,u,rfl,rfl⟩
   ·rw[C7]at h;exact wpAny_eqBool_int h
   ·rw[C9]at h;exact SeqAt.EqAt.int_str i t y u _ _ _ _ h
  ·rcases bh hv with⟨j,u,rfl,rfl⟩ | ⟨y,u,rfl,rfl⟩
   ·rw[C_]at h;exact SeqAt.EqAt.str_int x t j u _ _ _ _ h
   ·rw[C8]at h;exact wpAny_eqBool_str h
 «strs»:=fun k x t v h=>by
  rcases bh h with⟨i,u,rfl,e⟩ | ⟨y,u,rfl,e⟩
  ·exact nomatch e
  ·injection e with e1 _
   subst e1;cases v<;>rfl
inductive V where
 |non | bl (b:Bool) | int (i:Int) | str (x:Str) | byt (b:Array UInt8) | flt (b:UInt64) | ref (a:Addr) | ty (n:String)
 deriving DecidableEq
def RelV:V->Value->Prop
 |.non,u=>u=Value.none
 |.bl b,u=>u=N3 b
 |.int i,u=>∃t,u=Value.int i t
 |.str x,u=>∃t,u=N6 x t
 |.byt b,u=>∃t,u=Value.bytes b t
 |.flt b,u=>∃t,u=Value.float b t
 |.ref a,u=>u=LD a
 |.ty n,u=>u=ML n
noncomputable abbrev Vals:List V->List Value->Prop:=Paired RelV
theorem Vals.length{xs:List V}{us:List Value}(r:Vals xs us):xs.length=us.length:=Paired.length r
theorem Vals.get:∀{xs:List V} {us:List Value} {i:Nat} {x:V},Vals xs us->xs[i]?=some x->∃u,us[i]?=some u/\RelV x u
 |_,_,_,_,.nil,e=>by simp at e
 |_,_,0,_,.cons r _,e=>by simp at e;subst e;exact⟨_,rfl,r⟩
 |_,_,i+1,x,.cons _ t,e=>by obtain⟨u,h1,h2⟩:=Vals.get (i:=i) (x:=x) t (by simpa using e);exact⟨u,by simpa using h1,h2⟩
theorem Vals.set{x:V}{u:Value}(r:RelV x u):∀{xs:List V} {us:List Value} (i:Nat),Vals xs us->Vals (xs.set i x) (us.set i u)
 |_,_,_,.nil=>.nil
 |_,_,0,.cons _ t=>.cons r t
 |_,_,i+1,.cons q t=>.cons q (Vals.set r i t)
theorem Vals.append:∀{xs ys:List V} {us ws:List Value},Vals xs us->Vals ys ws->Vals (xs++ys) (us++ws)
 |_,_,_,_,.nil,s=>s
 |_,_,_,_,.cons r t,s=>.cons r (Vals.append t s)
theorem Vals.take:∀{xs:List V} {us:List Value} (n:Nat),Vals xs us->Vals (xs.take n) (us.take n)
 |_,_,0,_=>.nil
 |_,_,_+1,.nil=>.nil
 |_,_,n+1,.cons r t=>.cons r (Vals.take n t)
theorem Vals.drop:∀{xs:List V} {us:List Value} (n:Nat),Vals xs us->Vals (xs.drop n) (us.drop n)
 |_,_,0,r=>r
 |_,_,_+1,.nil=>.nil
 |_,_,n+1,.cons _ t=>Vals.drop n t
def Dc:Option V->Option Value->Prop
 |some v,some u=>RelV v u
 |none,none=>True
 |_,_=>False
def KV{κ:Type}:List (κ×V)->List (κ×Value)->Prop:=Paired fun(p:κ×V) (q:κ×Value)=>p.1=q.1/\RelV p.2 q.2
noncomputable def kV:Key->V
 |.inl i=>.int i
 |.inr x=>.str x
inductive HO where
 |lst (xs:List V)
 |tup (xs:List V)
 |dK (kvs:List (Key×V)) | dT (kvs:List (List Key×V)) (ts:List Addr)
 |set (S:Int->Bool) (n:Nat)
 |ins (C dx:Addr) (fs:List (Str×V))
 |own (x:Addr)
 |xd (fs:List (Str×V))
 |met (f x:Addr)
 |rng (lo hi:Int)
 |frz (o:Obj) (u:HO)
 |tbl (ln cl:Value) (q:Str)
 |ext (φ:Heap->Prop)
noncomputable abbrev Hp:=Addr->Option HO
noncomputable def upd(H:Hp)(a:Addr)(o:HO):Hp:=fun b=>if b=a then some o else H b
theorem aq{a:Addr}:upd H a o a=some o:=by unfold upd;rw[if_pos rfl]
theorem af(h:b≠a):upd H a o b=H b:=by unfold upd;rw[if_neg h]
theorem au(h:H a=some o)(h':H b=none):a≠b:=by intro e;subst e;rw[h]at h';cases h'
end
section
variable(P:Program)(w:World)
def bq(H:Hp)(h:Heap)(a:Addr):HO->Prop
 |.lst xs=>xs.length<=sizeLine/\∃(its:List Value) (n:Nat),Vals xs its/\h.get? a=some { cls:=.type "list",data:=.seq its.toArray n }
 |.tup xs=>xs.length<=sizeLine/\∃its:List Value,Vals xs its/\IsTup h a its.toArray
 |.dK kvs=>kvs.length<=sizeLine/\(a == sysModules)=false/\∃vs,KV kvs vs/\h.DictOf (rV P w) a vs
 |.dT kvs ts=>kvs.length<=sizeLine/\(a == sysModules)=false/\∃xs:List (List Key×Addr×Value),
   Paired (fun(p:List Key×V) (q:List Key×Addr×Value)=>p.1=q.1/\H q.2.1=some (.tup (p.1.map kV))/\RelV p.2 q.2.2) kvs xs /\
   ∃o es ep,h.get? a=some o/\o.ExactDict/\o.data=.dict es ep/\es.toList=xs.map (entryOfKey (tupleKind (rV P w)))/\(xs.map (·.1)).Nodup/\xs.map (·.2.1)=ts
 |.set S n=>h.SetOf (intKind P w) a S n
 |.ins C dx fs=>H dx=some (.own a)/\fs.length<=1000/\dx≠a/\h.get? a=some (NJ C dx) /\
   ∃mA,h.Ns1 dx mA/\(∀f,Dc (fs.lookup f) (mA f))/\PySem.Within mA (fs.map (·.1))
 |.own _=>∃o,h.get? a=some o
 |.xd fs=>∃mA,h.Ns1 a mA/\∀f,Dc (fs.lookup f) (mA f)
 |.rng lo hi=>∃t u v,h.get? a=some { cls:=.type "range",data:=.fields #[.int lo t,.int hi u,.int 1 v] }
 |.frz o u=>h.get? a=some o/\bq H h a u
 |.tbl ln cl q=>∃ps:Array Value,h.get? a=some { cls:=.none,data:=.fields ps }/\(ps=#[]\/∃(c:Addr) (oc:Obj) (vs:Array Value) (t:Tok),ps=#[ln,cl,.ref c]/\H c=some (.frz oc (.own a))/\oc.data=.fields vs/\vs[1]?=some (.str q t))
 |.met f x=>h.get? a=some (Nt (.ref f) (.ref x))
 |.ext φ=>φ h/\(∃o,h.get? a=some o)/\∀h1 h2:Heap,φ h1->(∀o,h1.get? a=some o->h2.get? a=some o)->φ h2
def HOk(H:Hp)(h:Heap):Prop:=∀a o,H a=some o->bq P w H h a o
end
section
variable{P:Program}{w:World}{H H':Hp}{h h':Heap}{a:Addr}{o:HO}
theorem bq.lt(x:bq P w H h a o):a<h.objs.size:=by
 cases o with
 |lst xs=>obtain⟨_,_,_,_,e⟩:=x;exact KC e
 |tup xs=>obtain⟨_,_,_,p⟩:=x;exact p.lt
 |dK kvs=>obtain⟨_,_,_,_,o,_,_,e,_⟩:=x;exact KC e
 |dT kvs ts=>obtain⟨_,_,_,_,o,_,_,e,_⟩:=x;exact KC e
 |set S n=>obtain⟨o,_,_,_,e,_⟩:=x;exact KC e
 |ins C dx fs=>obtain⟨_,_,_,e,_⟩:=x;exact KC e
 |own y=>obtain⟨_,e⟩:=x;exact KC e
 |xd fs=>obtain⟨_,⟨_,_,_,e,_⟩,_⟩:=x;exact KC e
 |rng lo hi=>obtain⟨_,_,_,e⟩:=x;exact KC e
 |frz ob u=>obtain⟨e,_⟩:=x;exact KC e
 |tbl ln cl q=>obtain⟨_,e,_⟩:=x;exact KC e
 |met f y=>exact KC (show h.get? a=some _ from x)
 |ext φ=>obtain⟨_,⟨_,e⟩,_⟩:=x;exact KC e
theorem Paired.vp{α β:Type}{F G:α->β->Prop}:∀{l₁:List α} {l₂:List β},Paired F l₁ l₂->(∀a b,F a b->G a b)->Paired G l₁ l₂
 |_,_,.nil,_=>.nil
 |_,_,.cons r t,f=>.cons (f _ _ r) (Paired.vp t f)
theorem bq.stay(x:bq P w H h a o)(k:∀b u,(b=a\/H b=some (.own a))->h.get? b=some u->h'.get? b=some u)
  (ho:∀b,H b=some (.own a)->H' b=some (.own a)) (hf:∀b o c,H b=some (.frz o (.own c))->H' b=some (.frz o (.own c))) (ht:∀b xs,H b=some (.tup xs)->H' b=some (.tup xs)):bq P w H' h' a o:=by
 induction o with
 |lst xs=>obtain⟨z,its,n,r,e⟩:=x;exact⟨z,its,n,r,k _ _ (.inl rfl) e⟩
 |tup xs=>obtain⟨z,its,r,ob,e,c⟩:=x;exact⟨z,its,r,ob,k _ _ (.inl rfl) e,c⟩
 |dK kvs=>obtain⟨z,y,vs,r,ob,es,ep,e,c⟩:=x;exact⟨z,y,vs,r,ob,es,ep,k _ _ (.inl rfl) e,c⟩
 |dT kvs ts=>obtain⟨z,y,xs,r,ob,es,ep,e,c⟩:=x;exact⟨z,y,xs,Paired.vp r fun p q z=>⟨z.1,ht _ _ z.2.1,z.2.2⟩,ob,es,ep,k _ _ (.inl rfl) e,c⟩
 |set S n=>obtain⟨ob,es,ep,t,e,c⟩:=x;exact⟨ob,es,ep,t,k _ _ (.inl rfl) e,c⟩
 |ins C dx fs=>obtain⟨d,z,ne,e,mA,⟨od,es,ep,e2,c⟩,r⟩:=x;exact⟨ho _ d,z,ne,k _ _ (.inl rfl) e,mA,⟨od,es,ep,k _ _ (.inr d) e2,c⟩,r⟩
 |own y=>obtain⟨ob,e⟩:=x;exact⟨ob,k _ _ (.inl rfl) e⟩
 |xd fs=>obtain⟨mA,⟨od,es,ep,e,c⟩,r⟩:=x;exact⟨mA,⟨od,es,ep,k _ _ (.inl rfl) e,c⟩,r⟩
 |rng lo hi=>obtain⟨t,u,v,e⟩:=x;exact⟨t,u,v,k _ _ (.inl rfl) e⟩
 |frz ob u ih=>obtain⟨e,q⟩:=x;exact⟨k _ _ (.inl rfl) e,ih q⟩
 |tbl ln cl q=>
  obtain⟨ps,e,d⟩:=x;refine⟨ps,k _ _ (.inl rfl) e,?_⟩;rcases d with d | ⟨c,oc,vs,t,d,d2,d3⟩
  ·exact .inl d
  ·exact .inr ⟨c,oc,vs,t,d,hf _ _ _ d2,d3⟩
 |met f y=>have e:h.get? a=some (Nt (.ref f) (.ref y)):=x;show h'.get? a=some (Nt (.ref f) (.ref y));exact k a _ (.inl rfl) e
 |ext φ=>obtain⟨p,⟨o,e⟩,st⟩:=x;exact⟨st _ _ p fun o q=>k _ _ (.inl rfl) q,⟨o,k _ _ (.inl rfl) e⟩,st⟩
theorem HOk.lt(x:HOk P w H h)(e:H a=some o):a<h.objs.size:=(x a o e).lt
theorem HOk.fresh(x:HOk P w H h)(e:h.objs.size<=a):H a=none:=by
 cases q:H a with
 |none=>rfl
 |some u=>exact absurd (KN (x.lt q) e) (Ls _)
theorem HOk.kept(x:HOk P w H h)(k:∀b u,h.get? b=some u->h'.get? b=some u):HOk P w H h':=fun a o e=>(x a o e).stay (fun b u _ q=>k b u q) (fun _ q=>q) (fun _ _ _ q=>q) fun _ _ q=>q
theorem HOk.laid(x:HOk P w H h)(k:∀b u,h.get? b=some u->h'.get? b=some u)(hp:h.objs.size<=a)(new:bq P w (upd H a o) h' a o):HOk P w (upd H a o) h':=fun b u e=>by
 have hn:=x.fresh hp;by_cases hb:b=a
 ·subst hb;rw[aq]at e;cases e;exact new
 ·rw[af hb]at e;exact(x b u e).stay (fun c v _ q=>k c v q) (fun c q=>by rw[af (au q hn)];exact q) (fun c _ _ q=>by rw[af (au q hn)];exact q) fun c xs q=>by rw[af (au q hn)];exact q
end
def Rd(H:Hp)(a:Addr)(u:HO):Prop:=H a=some u\/∃o,H a=some (.frz o u)
theorem Rd.ok{P:Program}{w:World}{H:Hp}{h:Heap}{a:Addr}{u:HO}(r:Rd H a u)(x:HOk P w H h):bq P w H h a u:=by
 rcases r with r | ⟨o,r⟩
 ·exact x a u r
 ·obtain⟨_,q⟩:=x a _ r;exact q
def Mut:Option HO->Prop
 |some (.lst _)=>True
 |some (.dK _)=>True
 |some (.dT _ _)=>True
 |some (.set _ _)=>True
 |some (.ins _ _ _)=>True
 |some (.ext _)=>True
 |_=>False
section
variable{P:Program}{w:World}{H:Hp}{h h':Heap}{x e:Addr}{o':HO}
theorem HOk.write(ok:HOk P w H h)(mu:Mut (H x))(he:e=x\/H e=some (.own x))(k:∀b u,b≠e->h.get? b=some u->h'.get? b=some u)(heo:∃u,h'.get? e=some u)
  (new:bq P w (upd H x o') h' x o'):HOk P w (upd H x o') h':=fun b u q=>by
 have Gu:∀c y,H c=some (.own y)->c≠x:=fun c y r z=>by subst z;rw[r]at mu;exact mu
 have Jq:∀c xs,H c=some (.tup xs)->c≠x:=fun c xs r z=>by subst z;rw[r]at mu;exact mu
 have Jr:∀c o y,H c=some (.frz o y)->c≠x:=fun c o y r z=>by subst z;rw[r]at mu;exact mu
 by_cases hb:b=x
 ·subst hb;rw[aq]at q;cases q;exact new
 ·rw[af hb]at q;by_cases hbe:b=e
  ·have q':H b=some (.own x):=by
    rcases he with z | z
    ·exact absurd (hbe.trans z) hb
    ·rw[hbe];exact z
   rw[q]at q';cases q';obtain⟨v,hv⟩:=heo;exact⟨v,by rw[hbe];exact hv⟩
  ·refine(ok b u q).stay (fun c v hc r=>k c v ?_ r) (fun c r=>by rw[af (Gu c b r)];exact r) (fun c _ _ r=>by rw[af (Jr c _ _ r)];exact r) fun c xs r=>by rw[af (Jq c xs r)];exact r
   rcases hc with rfl | hc
   ·exact hbe
   ·rintro rfl;rcases he with z | z
    ·exact Gu c b hc z
    ·rw[hc]at z;cases z;exact hb rfl
end
structure Un(fs ex:List Addr)(H H':Hp)(h h':Heap):Prop where
 keep:∀b o,h.get? b=some o->H b=none->b∉fs->b∉ex->h'.get? b=some o
 slot:∀b o,h.get? b=some o->H b=none->b∈fs->b∉ex->∃sl,h'.get? b=some { o with slots:=sl }
 free:∀b o,h.get? b=some o->H b=none->b∉ex->H' b=none
 there:∀b o,h.get? b=some o->b∉ex->∃o',h'.get? b=some o'
 tups:∀b xs,H b=some (.tup xs)->H' b=some (.tup xs)
 kZ:∀b o u,H b=some (.frz o u)->H' b=some (.frz o u)
 iK:∀b x y z,H b=some (.tbl x y z)->H' b=some (.tbl x y z)
section
variable{fs fs' ex ex':List Addr}{H H1 H2:Hp}{h h1 h2 h':Heap}{a x e:Addr}{o:HO}
theorem Un.any(u:Un fs ex H H1 h h1){b:Addr}{ob:Obj}(q:h.get? b=some ob)(n:H b=none)(hx:b∉ex):∃sl,h1.get? b=some { ob with slots:=sl }:=by
 by_cases hb:b∈fs
 ·exact u.slot b ob q n hb hx
 ·exact⟨ob.slots,u.keep b ob q n hb hx⟩
theorem Un.kept(k:∀b u,h.get? b=some u->h'.get? b=some u):Un fs ex H H h h':=
 ⟨fun b ob q _ _ _=>k b ob q,fun b ob q _ _ _=>⟨ob.slots,k b ob q⟩,fun _ _ _ n _=>n,fun b ob q _=>⟨ob,k b ob q⟩,fun _ _ q=>q,fun _ _ _ q=>q,fun _ _ _ _ q=>q⟩
theorem Un.refl:Un fs ex H H h h:=Un.kept fun _ _ q=>q
theorem Un.laid(k:∀b u,h.get? b=some u->h'.get? b=some u)(hp:h.objs.size<=a)(hn:H a=none):Un fs ex H (upd H a o) h h' where
 keep:=fun b u q _ _ _=>k b u q
 slot:=fun b u q _ _ _=>⟨u.slots,k b u q⟩
 free:=fun b u q n _=>by rw[af (KP (KN (KC q) hp))];exact n
 there:=fun b u q _=>⟨u,k b u q⟩
 tups:=fun b xs q=>by rw[af (au q hn)];exact q
 kZ:=fun b u xs q=>by rw[af (au q hn)];exact q
 iK:=fun b _ _ _ q=>by rw[af (au q hn)];exact q
theorem Un.write(mu:Mut (H x))(he:e=x\/H e=some (.own x))(k:∀b u,b≠e->h.get? b=some u->h'.get? b=some u)(heo:∃u,h'.get? e=some u):Un fs ex H (upd H x o) h h':=by
 have hx:∀b,H b=none->b≠x:=fun b n z=>by subst z;rw[n]at mu;exact mu
 have hb:∀b,H b=none->b≠e:=fun b n z=>by
  subst z;rcases he with r | r
  ·exact hx b n r
  ·rw[n]at r;cases r
 have hm:∀b u,H b=some u->¬Mut (some u)->b≠x:=fun b u q nm z=>by subst z;rw[q]at mu;exact nm mu
 refine ⟨fun b u q n _ _=>k b u (hb b n) q,fun b u q n _ _=>⟨u.slots,k b u (hb b n) q⟩,fun b u q n _=>by rw [af (hx b n)];exact n,fun b u q _=>?_,
  fun b xs q=>by rw[af (hm b _ q fun z=>z)];exact q,fun b u xs q=>by rw[af (hm b _ q fun z=>z)];exact q,fun b _ _ _ q=>by rw[af (hm b _ q fun z=>z)];exact q⟩
 by_cases hbe:b=e
 ·subst hbe;exact heo
 ·exact⟨u,k b u hbe q⟩
end
section
variable{b:Addr}{h:Heap}{o:Obj}{H:Hp}
noncomputable def trk(h:Heap)(H:Hp):List Addr:=(KY h.objs.size).filter fun a=>(H a).isSome
noncomputable def k_(h:Heap)(H:Hp):Heap:=PySem.W.hideAll h (trk h H)
theorem t_(h:Heap)(H:Hp):(k_ h H).objs.size=h.objs.size:=PySem.W.hideAll_size _ _
theorem vq(e:h.get? b=some o)(n:H b=none):(k_ h H).get? b=some o:=
 PySem.W.hideAll_get _ e fun hm=>by have q:(H b).isSome=true:=(LZ.mp hm).2;rw[n]at q;simp at q
theorem ze(e:(k_ h H).get? b=some o):h.get? b=some o/\H b=none:=by
 have e':h.get? b=some o:=PySem.W.of_hideAll (trk h H) e;refine⟨e',?_⟩;cases q:H b with
 |none=>rfl
 |some x=>have hm:b∈trk h H:=LZ.mpr ⟨Ng.mpr (KC e'),by simp[q]⟩;have z:(k_ h H).get? b=none:=PySem.W.hideAll_none (trk h H) hm;rw[z]at e;cases e
structure Mod(K:gb)(mg:Str->Option Value)(base:Heap):Prop where
 kin:K.In base
 glob:base.Ns mainGlobals mg
 blt:∃mb,base.Ns builtinsNs mb/\∀x:Str,x ≠ "__name__" -> mb x=bootBuiltins x
 nolimit:base.NoLimit
structure Cx where
 prog:Program
 w:World
 K:gb
 mg:Str->Option Value
 base:Heap
 A:Around
 N:List Str
 s₀:Shared
 H₀:Hp
 env:Env
 outer:List Env
 stack:List Env
 ex:List Addr
 fn:Str->Bool
 calm:Bool
 pn:List (Addr×Obj)
 xe:Value->Shared->Prop
noncomputable def frs(l:List Env):List Addr:=l.filterMap (·.frame)
noncomputable abbrev Cx.fs(X:Cx):List Addr:=frs X.outer
def Vis(sc:Scope)(x:Str):Prop:=sc.names.lookup x=some .local\/sc.names.lookup x=some .cell\/sc.names.lookup x=some .free
def Loc(sc:Scope)(x:Str):Prop:=sc.names.lookup x=some .local\/sc.names.lookup x=some .cell
def Look(env:Env)(h:Heap)(m:Str->Option Value)(x:Str)(u:Value):Prop:=
 (env.kindOf x=some .local/\m x=some u)\/((env.kindOf x=some .cell\/env.kindOf x=some .free)/\∃c,env.cells.lookup x=some c/\h.IsCell c (some u))
structure Cx.Ok(X:Cx):Prop where
 mod:Mod X.K X.mg X.base
 kind:X.env.scope.kind=.function
 glob:X.env.globals=mainGlobals
 blt:X.env.builtins=builtinsNs
 above:X.s₀.heap.objs.size<=X.env.locals
 inj:∀x y c,X.env.cells.lookup x=some c->X.env.cells.lookup y=some c->x=y
 has:∀x,(X.env.kindOf x=some .cell\/X.env.kindOf x=some .free)->∃c,X.env.cells.lookup x=some c
 cab:∀x c,X.fn x=true->X.env.cells.lookup x=some c->X.s₀.heap.objs.size<=c
 hd:X.calm=true->X.A.handled=none
 frames:X.A.frames=some X.stack
 stk:X.stack=X.outer\/(X.stack=X.env::X.outer/\X.env.frame=some X.env.locals)
 exf:∀b∈X.ex,b≠X.env.locals/\∀x c,X.env.cells.lookup x=some c->c≠b
 bs:∀b o,X.base.get? b=some o->X.s₀.heap.get? b=some o/\X.H₀ b=none
 bsz:X.base.objs.size<=X.s₀.heap.objs.size
 vt:∀b o,X.base.get? b=some o->b∉X.ex
 zf:∀b∈X.ex,b∉X.fs
 jh:X.s₀.heap.FunFrames X.base X.outer
 frf:∀b∈X.fs,X.H₀ b=none
structure Inv(X:Cx)(jn:List (Addr×Obj))(σ:List (Option V))(H:Hp)(s:Shared):Prop where
 ok:X.Ok
 os:s.os=X.s₀.os
 bare:AllBare s.gens
 base:Un X.fs X.ex X.H₀ H X.s₀.heap s.heap
 loc:∃m,s.heap.Ns X.env.locals m/\∀(i:Nat) (x:Str) (v:V),X.N[i]?=some x->σ[i]?=some (some v)->Vis X.env.scope x->∃u,RelV v u/\Look X.env s.heap m x u
 cell:∀x c,X.env.cells.lookup x=some c->∃v,s.heap.IsCell c v
 free:H X.env.locals=none
 eT:∀x c,X.env.cells.lookup x=some c->H c=none
 pin:∀p∈X.pn++jn,s.heap.get? p.1=some p.2/\H p.1=none/\p.1≠X.env.locals/\p.1∉X.fs/\∀v,p.2.data≠.cell v
 hok:HOk X.prog X.w H s.heap
 len:σ.length=X.N.length
end
section
variable{X:Cx}{jn:List (Addr×Obj)}{σ:List (Option V)}{H H':Hp}{s:Shared}{h':Heap}
section
variable{ch:List Addr}{x:Str}{u:Value}{a:Addr}{t':Nat}{i:Nat}{v:V}
theorem Cx.Ok.Js(ok:X.Ok){b:Addr}{o:Obj}(e:X.base.get? b=some o):b∉X.fs:=fun hb=>by have:=(ok.jh.mem hb).1;rw[e]at this;cases this
theorem Inv.bs(I:Inv X jn σ H s):∀b o,X.base.get? b=some o->s.heap.get? b=some o/\H b=none:=fun b o e=>⟨I.base.keep b o (I.ok.bs b o e).1 (I.ok.bs b o e).2 (I.ok.Js e) (I.ok.vt b o e),I.base.free b o (I.ok.bs b o e).1 (I.ok.bs b o e).2 (I.ok.vt b o e)⟩
theorem Inv.bk(I:Inv X jn σ H s):∀b o,X.base.get? b=some o->s.heap.get? b=some o:=fun b o e=>(I.bs b o e).1
theorem Inv.mod(I:Inv X jn σ H s):Mod X.K X.mg X.base:=I.ok.mod
theorem Inv.kIn(I:Inv X jn σ H s):X.K.In s.heap:=I.ok.mod.kin.keeps I.bk
theorem Inv.lt(I:Inv X jn σ H s):X.env.locals<s.heap.objs.size:=let ⟨_,hn,_⟩:=I.loc;hn.lt
theorem Inv.sz(I:Inv X jn σ H s):X.s₀.heap.objs.size<=s.heap.objs.size:=Nat.le_trans I.ok.above (M5 I.lt)
theorem Inv.Dd(I:Inv X jn σ H s)(h:s.heap.objs.size<=a):a∉X.fs:=fun hb=>by obtain⟨_,o,ho,_⟩:=I.ok.jh.mem hb;exact absurd (KN (KC ho) (Nat.le_trans I.sz h)) (Ls _)
theorem Inv.cne(I:Inv X jn σ H s):∀x c,X.env.cells.lookup x=some c->c≠X.env.locals:=fun x c e z=>by obtain⟨v,o,ho,hd⟩:=I.cell x c e;obtain⟨m,⟨o',es,ep,ho',hd',_⟩,_⟩:=I.loc;rw[z,ho']at ho;cases ho;rw[hd']at hd;cases hd
theorem Inv.jh(I:Inv X jn σ H s):s.heap.FunFrames X.base X.outer:=by
 have all:∀(l:List Env),(∀b∈frs l,b∈X.fs)->X.s₀.heap.FunFrames X.base l->s.heap.FunFrames X.base l:=by
  intro l
  induction l with
  |nil=>intro _ _;trivial
  |cons env r ih=>intro hs hl;obtain⟨hk,⟨L,o,hf,hn,ho,hd⟩,hr⟩:=hl;have hL:L∈X.fs:=hs L (by unfold frs;rw[Nb,hf];exact Kz);obtain⟨sl,e⟩:=I.base.slot L o ho (I.ok.frf L hL) hL fun z=>I.ok.zf L z hL;exact⟨hk,⟨L,_,hf,hn,e,hd⟩,ih (fun b hb=>hs b (by unfold frs;rw[Nb,hf];exact Kw _ hb)) hr⟩
 exact all X.outer (fun _ hb=>hb) I.ok.jh
theorem Inv.stack(I:Inv X jn σ H s):s.heap.FunFrames X.base X.stack:=by
 rcases I.ok.stk with e | ⟨e,hf⟩
 ·rw[e];exact I.jh
 ·rw[e];obtain⟨m,hn,_⟩:=I.loc;refine .cons (by rw[I.ok.kind];decide) hf hn ?_ I.jh;exact M6 (Nat.le_trans I.ok.bsz I.ok.above)
theorem Inv.m8(I:Inv X jn σ H s):∀b∈frs X.stack,b∈X.env.locals::X.fs:=fun b hb=>by
 rcases I.ok.stk with e | ⟨e,hf⟩
 ·rw[e]at hb;exact Kw _ hb
 ·rw[e]at hb;unfold frs at hb;rw[Nb,hf]at hb;exact hb
theorem Inv.rW(I:Inv X jn σ H s):∀b∈frs X.stack,H b=none:=fun b hb=>by
 rcases KD.mp (I.m8 b hb) with e | hb
 ·rw[e];exact I.free
 ·obtain⟨_,o,ho,_⟩:=I.ok.jh.mem hb;exact I.base.free b o ho (I.ok.frf b hb) fun z=>I.ok.zf b z hb
theorem Inv.step{g':Array GenState}{t':Nat}{d':Drawn}{ch:List Addr}(I:Inv X jn σ H s)
  (hch:∀b∈ch,(b∈X.ex\/X.s₀.heap.objs.size<=b)/\b≠X.env.locals/\(∀x c,X.env.cells.lookup x=some c->c≠b)/\∀p∈X.pn++jn,p.1≠b)
  (keep:∀b o,b≠X.env.locals->b∉X.fs->b∉ch->s.heap.get? b=some o->H b=none->h'.get? b=some o)
  (slot:∀b o,b≠X.env.locals->b∈X.fs->b∉ch->s.heap.get? b=some o->H b=none->∃sl,h'.get? b=some { o with slots:=sl }) (free:∀b o,b∉ch->s.heap.get? b=some o->H b=none->H' b=none)
  (there:∀b o,b∉ch->s.heap.get? b=some o->∃o',h'.get? b=some o')
  (tups:∀b xs,H b=some (.tup xs)->H' b=some (.tup xs)) (kZ:∀b o u,H b=some (.frz o u)->H' b=some (.frz o u)) (iK:∀b x y z,H b=some (.tbl x y z)->H' b=some (.tbl x y z))
  (ns:∀m,s.heap.Ns X.env.locals m->h'.Ns X.env.locals m) (hok:HOk X.prog X.w H' h') (hg:AllBare g') :
  Inv X jn σ H' { s with heap:=h',gens:=g',drawn:=d',toks:=t' }:=by
 have neL:∀b o,X.s₀.heap.get? b=some o->b≠X.env.locals:=fun b o e=>KP (KN (KC e) I.ok.above);have neC:∀b o,X.s₀.heap.get? b=some o->b∉X.ex->b∉ch:=fun b o e hx hb=>by
  rcases (hch b hb).1 with z | z
  ·exact hx z
  ·exact absurd (KN (KC e) z) (Ls _)
 have cellK:∀x c,X.env.cells.lookup x=some c->∀v,s.heap.IsCell c v->h'.IsCell c v:=fun x c e v ⟨o,ho,hd⟩=>by
  have nch:c∉ch:=fun z=>(hch c z).2.2.1 x c e rfl;by_cases hc:c∈X.fs
  ·obtain⟨sl,q⟩:=slot c o (I.cne x c e) hc nch ho (I.eT x c e);exact⟨_,q,hd⟩
  ·exact⟨o,keep c o (I.cne x c e) hc nch ho (I.eT x c e),hd⟩
 refine⟨I.ok,I.os,hg,⟨fun b o e n hb hx=>?_,fun b o e n hb hx=>?_,fun b o e n hx=>?_,fun b o e hx=>?_,fun b xs e=>tups b xs (I.base.tups b xs e),fun b o xs e=>kZ b o xs (I.base.kZ b o xs e),fun b x y z e=>?_⟩,?_,fun x c e=>?_,?_,fun x c e=>?_,fun p hp=>?_,hok,I.len⟩
 ·exact keep b o (neL b o e) hb (neC b o e hx) (I.base.keep b o e n hb hx) (I.base.free b o e n hx)
 ·obtain⟨sl,e1⟩:=I.base.slot b o e n hb hx;obtain⟨sl',e2⟩:=slot b _ (neL b o e) hb (neC b o e hx) e1 (I.base.free b o e n hx);exact⟨sl',e2⟩
 ·obtain⟨o',e1⟩:=I.base.there b o e hx;exact free b o' (neC b o e hx) e1 (I.base.free b o e n hx)
 ·obtain⟨o',e1⟩:=I.base.there b o e hx;exact there b o' (neC b o e hx) e1
 ·exact iK _ _ _ _ (I.base.iK _ _ _ _ e)
 ·obtain⟨m,hn,hl⟩:=I.loc;refine⟨m,ns m hn,fun i x v e1 e2 e3=>?_⟩;obtain⟨u,r,l⟩:=hl i x v e1 e2 e3;refine⟨u,r,?_⟩;rcases l with l | ⟨k,c,e,z⟩
  ·exact .inl l
  ·exact .inr ⟨k,c,e,cellK x c e _ z⟩
 ·obtain⟨v,z⟩:=I.cell x c e;exact⟨v,cellK x c e v z⟩
 ·obtain⟨m,⟨o,_,_,ho,_⟩,_⟩:=I.loc;exact free _ o (fun z=>(hch _ z).2.1 rfl) ho I.free
 ·obtain⟨v,o,ho,hd⟩:=I.cell x c e;exact free c o (fun z=>(hch c z).2.2.1 x c e rfl) ho (I.eT x c e)
 ·obtain⟨e,n,ne,nf,d⟩:=I.pin p hp;have nch:p.1∉ch:=fun z=>(hch p.1 z).2.2.2 p hp rfl;exact⟨keep p.1 p.2 ne nf nch e n,free p.1 p.2 nch e n,ne,nf,d⟩
theorem Inv.un(I:Inv X jn σ H s)(u:Un X.fs [] H H' s.heap h')(hok:HOk X.prog X.w H' h'):Inv X jn σ H' { s with heap:=h',toks:=t' }:=by
 obtain⟨m,⟨o,es,ep,ho,r⟩,_⟩:=id I.loc;obtain⟨sl,hL⟩:=u.any ho I.free (by simp);exact I.step (g':=s.gens) (d':=s.drawn) (ch:=[]) (fun _ z=>nomatch z) (fun b o _ hb _ e n=>u.keep b o e n hb (by simp)) (fun b o _ hb _ e n=>u.slot b o e n hb (by simp)) (fun b o _ e n=>u.free b o e n (by simp)) (fun b o _ e=>u.there b o e (by simp)) u.tups u.kZ u.iK (fun m' hm=>by obtain⟨o',es',ep',ho',r'⟩:=hm;rw[ho]at ho';cases ho';exact⟨_,es',ep',hL,r'⟩) hok I.bare
theorem Inv.call{g':Array GenState}{t':Nat}{d':Drawn}(I:Inv X jn σ H s)(u:Un (frs X.stack) ch H H' s.heap h')(hok:HOk X.prog X.w H' h')(hg:AllBare g')
  (hch:∀b∈ch,(b∈X.ex\/X.s₀.heap.objs.size<=b)/\b≠X.env.locals/\(∀x c,X.env.cells.lookup x=some c->c≠b)/\∀p∈X.pn++jn,p.1≠b) :
  Inv X jn σ H' { s with heap:=h',gens:=g',drawn:=d',toks:=t' }:=by
 obtain⟨m,⟨o,es,ep,ho,r⟩,_⟩:=id I.loc;obtain⟨sl,hL⟩:=u.any ho I.free fun z=>(hch _ z).2.1 rfl;exact I.step (ch:=ch) hch (fun b o hL hb hc e n=>u.keep b o e n (fun z=>(KD.mp (I.m8 b z)).elim hL hb) hc) (fun b o _ _ hc e n=>u.any e n hc) (fun b o hc e n=>u.free b o e n hc) (fun b o hc e=>u.there b o e hc) u.tups u.kZ u.iK (fun m' hm=>by obtain⟨o',es',ep',ho',r'⟩:=hm;rw[ho]at ho';cases ho';exact⟨_,es',ep',hL,r'⟩) hok hg
theorem Inv.turned{t':Nat}{it:Addr}(I:Inv X jn σ H s)(k:∀b o,b≠it->s.heap.get? b=some o->h'.get? b=some o)(hn:H it=none)(hL:it≠X.env.locals)
  (h1:it∈X.ex\/X.s₀.heap.objs.size<=it) (h2:∀x c,X.env.cells.lookup x=some c->c≠it) (h3:∀p∈X.pn++jn,p.1≠it):Inv X jn σ H { s with heap:=h',toks:=t' }:=by
 have nit:∀b u,H b=some u->b≠it:=fun b u e z=>by rw[z,hn]at e;cases e
 refine I.step (g':=s.gens) (d':=s.drawn) (ch:=[it]) (fun b hb=>?_) (fun b o _ _ hc e _=>k b o (fun z=>hc (by simp[z])) e) (fun b o _ _ hc e _=>⟨o.slots,k b o (fun z=>hc (by simp[z])) e⟩) (fun _ _ _ _ n=>n)
  (fun b o hc e=>⟨o,k b o (fun z=>hc (by simp[z])) e⟩) (fun _ _ e=>e) (fun _ _ _ e=>e) (fun _ _ _ _ e=>e) (fun m hm=>?_) (fun b u e=>?_) I.bare
 ·have e:b=it:=by simpa using hb
  subst e;exact⟨h1,hL,h2,h3⟩
 ·obtain⟨o,es,ep,ho,r⟩:=hm;exact⟨o,es,ep,k _ o (Lg hL) ho,r⟩
 ·refine(I.hok b u e).stay (fun c v hc q=>k c v ?_ q) (fun _ q=>q) (fun _ _ _ q=>q) fun _ _ q=>q;rcases hc with z | z
  ·rw[z];exact nit b u e
  ·exact nit c _ z
theorem Inv.tok(I:Inv X jn σ H s)(t:Nat):Inv X jn σ H { s with toks:=t }:=I.un (h':=s.heap) (t':=t) Un.refl I.hok
theorem Inv.kept(I:Inv X jn σ H s)(k:∀b u,s.heap.get? b=some u->h'.get? b=some u):Inv X jn σ H { s with heap:=h',toks:=t' }:=I.un (Un.kept k) (I.hok.kept k)
theorem Inv.laid{o:HO}{t':Nat}(I:Inv X jn σ H s)(k:∀b u,s.heap.get? b=some u->h'.get? b=some u)(hp:s.heap.objs.size<=a)(new:bq X.prog X.w (upd H a o) h' a o) :
  Inv X jn σ (upd H a o) { s with heap:=h',toks:=t' }:=I.un (Un.laid k hp (I.hok.fresh hp)) (I.hok.laid k hp new)
theorem Inv.write{x e:Addr}{o:HO}{t':Nat}(I:Inv X jn σ H s)(mu:Mut (H x))(he:e=x\/H e=some (.own x))(k:∀b u,b≠e->s.heap.get? b=some u->h'.get? b=some u)(heo:∃u,h'.get? e=some u)
  (new:bq X.prog X.w (upd H x o) h' x o):Inv X jn σ (upd H x o) { s with heap:=h',toks:=t' }:=I.un (Un.write mu he k heo) (I.hok.write mu he k heo new)
theorem Inv.jt{BH:List (Addr×Obj)}(I:Inv X jn σ H s)(h:∀p∈BH,s.heap.get? p.1=some p.2/\H p.1=none/\p.1≠X.env.locals/\p.1∉X.fs/\∀v,p.2.data≠.cell v):Inv X BH σ H s:=
 ⟨I.ok,I.os,I.bare,I.base,I.loc,I.cell,I.free,I.eT,fun p hp=>(K3.mp hp).elim (fun z=>I.pin p (Lv _ z)) (h p),I.hok,I.len⟩
theorem oR{N:List Str}(hN:N.Nodup){i j:Nat}(a:N[i]?=some x)(b:N[j]?=some x):i=j:=by obtain⟨h1,e1⟩:=pe.mp a;obtain⟨h2,e2⟩:=pe.mp b;exact(List.getElem_inj hN).mp (e1.trans e2.symm)
theorem lI{M:Model}{A:Around}{E:Value->Shared->Prop}{Q:Unit->Shared->Prop}(I:Inv X jn σ H s)(hN:X.N.Nodup)(hi:X.N[i]?=some x)(hx:Loc X.env.scope x)(r:RelV v u)
  (h:∀s',Inv X jn (σ.set i (some v)) H s'->(∃a,Heap.SameBut a s.heap s'.heap/\(a=X.env.locals\/X.env.cells.lookup x=some a))->Q () s') (hf:X.fn x=true\/X.env.scope.names.lookup x=some .local:=by trivial):wpAny M A (storeName X.env x u) Q E s:=by
 obtain⟨m,hn,hl⟩:=id I.loc;have hcls:(X.env.scope.kind == .class||(X.env.scope.kind == .module&&X.env.locals != X.env.globals))=false:=by rw[I.ok.kind];rfl
 have hiσ:i<σ.length:=by rw[I.len];exact(pe.mp hi).1
 have cne:=I.cne;have tracked:∀{a:Addr} {h':Heap},(∃o,s.heap.get? a=some o/\H a=none)->Heap.SameBut a s.heap h'->HOk X.prog X.w H h':=fun {a h'} ha hs b ob e=>by
  obtain⟨_,_,hfree⟩:=ha;refine(I.hok b ob e).stay (fun c w' hc q=>(hs.2 c ?_).trans q) (fun _ q=>q) (fun _ _ _ q=>q) fun _ _ q=>q;rintro rfl;rcases hc with rfl | hc
  ·rw[hfree]at e;cases e
  ·rw[hfree]at hc;cases hc
 rcases hx with hk | hk
 ·refine wpAny_storeName_local hk hn (fun h' hn' hs=>?_) hcls;obtain⟨oL,_,_,hoL,_⟩:=id hn;refine h _ ⟨I.ok,I.os,I.bare,⟨fun b o e n hb hx=>?_,fun b o e n hb hx=>?_,I.base.free,fun b o e hx=>?_,I.base.tups,I.base.kZ,I.base.iK⟩,⟨_,hn',fun j y v' e1 e2 e3=>?_⟩,fun y c e=>?_,I.free,I.eT,fun p hp=>?_,tracked ⟨oL,hoL,I.free⟩ hs,by simpa using I.len⟩ ⟨_,hs,.inl rfl⟩
  ·exact(hs.2 b (KP (KN (KC e) I.ok.above))).trans (I.base.keep b o e n hb hx)
  ·obtain⟨sl,e1⟩:=I.base.slot b o e n hb hx;exact⟨sl,(hs.2 b (KP (KN (KC e) I.ok.above))).trans e1⟩
  ·obtain⟨o',e1⟩:=I.base.there b o e hx;exact⟨o',(hs.2 b (KP (KN (KC e) I.ok.above))).trans e1⟩
  ·by_cases hj:j=i
   ·subst hj;rw[hi]at e1;cases e1;rw[KW hiσ]at e2;cases e2;exact⟨u,r,.inl ⟨hk,by simp⟩⟩
   ·rw[gc (Lg hj)]at e2;obtain⟨u',r',q⟩:=hl j y v' e1 e2 e3;refine⟨u',r',?_⟩;rcases q with⟨k,e⟩ | ⟨k,c,e,z⟩
    ·refine .inl ⟨k,?_⟩;have:y≠x:=fun e=>hj (oR hN e1 (e▸hi));simp[this,e]
    ·exact .inr ⟨k,c,e,z.sameBut hs (cne y c e)⟩
  ·obtain⟨w',z⟩:=I.cell y c e;exact⟨w',z.sameBut hs (cne y c e)⟩
  ·obtain⟨e,n,ne,nf,d⟩:=I.pin p hp;exact⟨(hs.2 p.1 ne).trans e,n,ne,nf,d⟩
 ·have hfn:X.fn x=true:=by
   rcases hf with z | z
   ·exact z
   ·rw[z]at hk;cases hk
  obtain⟨c,hc⟩:=I.ok.has x (.inl hk);obtain⟨w',z⟩:=I.cell x c hc;refine wpAny_storeName_cell I.ok.kind hk hc z (fun h' hc' hs=>?_);obtain⟨oc,hoc,Jt⟩:=id z;refine h { s with heap:=h' } ⟨I.ok,I.os,I.bare,⟨fun b o e n hb hx=>?_,fun b o e n hb hx=>?_,I.base.free,fun b o e hx=>?_,I.base.tups,I.base.kZ,I.base.iK⟩,⟨m,hn.sameBut hs (Lg (cne x c hc)),fun j y v' e1 e2 e3=>?_⟩,fun y c' e=>?_,I.free,I.eT,fun p hp=>?_,tracked ⟨oc,hoc,I.eT x c hc⟩ hs,by simpa using I.len⟩ ⟨c,hs,.inr hc⟩
  ·exact(hs.2 b (KP (KN (KC e) (I.ok.cab x c hfn hc)))).trans (I.base.keep b o e n hb hx)
  ·obtain⟨sl,e1⟩:=I.base.slot b o e n hb hx;exact⟨sl,(hs.2 b (KP (KN (KC e) (I.ok.cab x c hfn hc)))).trans e1⟩
  ·obtain⟨o',e1⟩:=I.base.there b o e hx;exact⟨o',(hs.2 b (KP (KN (KC e) (I.ok.cab x c hfn hc)))).trans e1⟩
  ·by_cases hj:j=i
   ·subst hj;rw[hi]at e1;cases e1;rw[KW hiσ]at e2;cases e2;exact⟨u,r,.inr ⟨.inl hk,c,hc,hc'⟩⟩
   ·rw[gc (Lg hj)]at e2;obtain⟨u',r',q⟩:=hl j y v' e1 e2 e3;refine⟨u',r',?_⟩;rcases q with q | ⟨k,c',e,z'⟩
    ·exact .inl q
    ·refine .inr ⟨k,c',e,z'.sameBut hs ?_⟩;rintro rfl;exact hj (oR hN e1 (I.ok.inj _ _ _ e hc▸hi))
  ·by_cases hcc:c'=c
   ·subst hcc;exact⟨_,hc'⟩
   ·obtain⟨w2,z2⟩:=I.cell y c' e;exact⟨w2,z2.sameBut hs hcc⟩
  ·obtain⟨e,n,ne,nf,d⟩:=I.pin p hp;refine⟨(hs.2 p.1 ?_).trans e,n,ne,nf,d⟩;intro q;rw[q,hoc]at e;have q':oc=p.2:=Option.some.inj e;exact d w' (by rw[<- q'];exact Jt)
theorem oS{M:Model}{A:Around}{E:Value->Shared->Prop}{Q:Unit->Shared->Prop}(I:Inv X jn σ H s)(hN:X.N.Nodup)(hi:X.N[i]?=some x)(hx:Loc X.env.scope x)(r:RelV v u)
  (h:∀s',Inv X jn (σ.set i (some v)) H s'->Q () s') (hf:X.fn x=true\/X.env.scope.names.lookup x=some .local:=by trivial):wpAny M A (storeName X.env x u) Q E s:=
 lI I hN hi hx r (fun s' I' _=>h s' I') hf
theorem Inv.Gv{s':Shared}(I:Inv X jn σ H s)(ho:s'.os=s.os)(u:Un (frs X.stack) ch H H' s.heap s'.heap)(hok:HOk X.prog X.w H' s'.heap)(hg:AllBare s'.gens)
  (hch:∀b∈ch,(b∈X.ex\/X.s₀.heap.objs.size<=b)/\b≠X.env.locals/\(∀x c,X.env.cells.lookup x=some c->c≠b)/\∀p∈X.pn++jn,p.1≠b):Inv X jn σ H' s':=by
 obtain⟨h',g',d',t',o'⟩:=s';have e:o'=s.os:=ho;subst e;exact I.call (g':=g') (t':=t') (d':=d') u hok hg hch
end
end
noncomputable abbrev XK:=Value->Option Addr->Hp->Prop
noncomputable abbrev St:=List (Option V)
noncomputable abbrev VK:=V->Hp->Prop
noncomputable abbrev TE:=St->Hp->VK->Prop
noncomputable abbrev TT:=St->Hp->(Bool->Hp->Prop)->Prop
noncomputable abbrev TA:=St->Hp->(List V->Hp->Prop)->Prop
structure Ends where
 nx:St->Hp->Prop
 rt:VK
 bk:St->Hp->Prop:=fun _ _=>False
 ct:St->Hp->Prop:=fun _ _=>False
noncomputable abbrev TS:=Ends->St->Hp->Prop
def EP(X:Cx)(jn:List (Addr×Obj))(σ:St)(Q:VK)(u:Value)(s':Shared):Prop:=∃v H',Inv X jn σ H' s'/\RelV v u/\Q v H'
def TP(X:Cx)(jn:List (Addr×Obj))(σ:St)(Q:Bool->Hp->Prop)(b:Bool)(s':Shared):Prop:=∃H',Inv X jn σ H' s'/\Q b H'
def AP(X:Cx)(jn:List (Addr×Obj))(σ:St)(Q:List V->Hp->Prop)(us:List Value)(s':Shared):Prop:=∃vs H',Inv X jn σ H' s'/\Vals vs us/\Q vs H'
def SP(X:Cx)(jn:List (Addr×Obj))(D:Ends)(f:Flow)(s':Shared):Prop:=
 match f with
 |.next=>∃σ' H',Inv X jn σ' H' s'/\D.nx σ' H'
 |.brk=>∃σ' H',Inv X jn σ' H' s'/\D.bk σ' H'
 |.cont=>∃σ' H',Inv X jn σ' H' s'/\D.ct σ' H'
 |.ret u=>∃v σ' H',Inv X jn σ' H' s'/\RelV v u/\D.rt v H'
def PE(X:Cx)(e:Expr)(t:TE):Prop:=
 ∀(jn:List (Addr×Obj)) (s:Shared) (σ:St) (H:Hp) (Q:VK),Inv X jn σ H s->t σ H Q->wpAny (model X.prog X.w) X.A (eval e X.env) (EP X jn σ Q) X.xe s
def PT(X:Cx)(e:Expr)(t:TT):Prop:=
 ∀(jn:List (Addr×Obj)) (s:Shared) (σ:St) (H:Hp) (Q:Bool->Hp->Prop),Inv X jn σ H s->t σ H Q->wpAny (model X.prog X.w) X.A (isTrue e X.env (eval e X.env)) (TP X jn σ Q) X.xe s
def PW(X:Cx)(e:Expr)(t:TT):Prop:=
 ∀(whole:Sem Value) (jn:List (Addr×Obj)) (s:Shared) (σ:St) (H:Hp) (Q:Bool->Hp->Prop),Inv X jn σ H s->t σ H Q->wpAny (model X.prog X.w) X.A (isTrue e X.env whole) (TP X jn σ Q) X.xe s
theorem PW.pt{X:Cx}{e:Expr}{t:TT}(h:PW X e t):PT X e t:=h _
def PA(X:Cx)(es:List Expr)(t:TA):Prop:=
 ∀(pos:Pos) (jn:List (Addr×Obj)) (s:Shared) (σ:St) (H:Hp) (Q:List V->Hp->Prop),Inv X jn σ H s->t σ H Q->wpAny (model X.prog X.w) X.A (spliced (backTo pos (starEach es X.env))) (AP X jn σ Q) X.xe s
def PS(X:Cx)(st:Stmt)(t:TS):Prop:=
 ∀(jn:List (Addr×Obj)) (s:Shared) (σ:St) (H:Hp) (D:Ends),Inv X jn σ H s->t D σ H->wpAny (model X.prog X.w) X.A (exec st X.env) (SP X jn D) X.xe s
def PSs(X:Cx)(st:List Stmt)(t:TS):Prop:=
 ∀(jn:List (Addr×Obj)) (s:Shared) (σ:St) (H:Hp) (D:Ends),Inv X jn σ H s->t D σ H->wpAny (model X.prog X.w) X.A (execs st X.env) (SP X jn D) X.xe s
theorem thn{α:Type}{t:Sem α}{Q Q':α->Shared->Prop}{M:Model}{A:Around}{E:Value->Shared->Prop}{s:Shared}(h:wpAny M A t Q E s)(hQ:∀a s,Q a s->Q' a s):wpAny M A t Q' E s:=wpAny_mono h hQ fun _ _ x=>x
section
variable{X:Cx}
section
variable{Q:Value->Shared->Prop}{jn:List (Addr×Obj)}{u:Value}{x:Str}{s:Shared}{H:Hp}{σ:St}{t:TE}{v:V}
def qC(i:Nat):TE:=fun σ H Q=>∃v,σ[i]?=some (some v)/\Q v H
def tC(v:V):TE:=fun _ H Q=>Q v H
theorem gg{i:Nat}{pos:Pos}(hN:X.N[i]?=some x)(hv:Vis X.env.scope x)(hd:(x == ("__debug__" : Str))=false:=by decide)(FG:(x == ("__classdict__" : Str))=false:=by decide):PE X (.Name x pos) (qC i):=by
 intro jn s σ H Q I h;obtain⟨v,e,h⟩:=h;obtain⟨m,hn,hl⟩:=I.loc;obtain⟨u,r,l⟩:=hl i x v hN e hv;have Cq:EP X jn σ Q u s:=⟨v,H,I,r,h⟩
 rcases l with⟨hk,hm⟩ | ⟨hk,c,hc,hcell⟩
 ·exact wpAny_Name (wpAny_loadName_local I.ok.kind hk hn hm Cq) hd
 ·rcases hk with hk | hk
  ·exact wpAny_Name (wpAny_loadName_cell I.ok.kind hk hc hcell Cq) hd
  ·exact wpAny_Name (wpAny_loadName_free I.ok.kind hk hc hcell Cq FG) hd
theorem De{i j pos}:PE X (.Constant (.int i) j pos) (tC (.int i)):=fun _ _ _ H _ I h=>wpAny_Constant_int ⟨.int i,H,I.tok _,⟨_,rfl⟩,h⟩
theorem Gw{b j pos}:PE X (.Constant (.bool b) j pos) (tC (.bl b)):=fun _ _ _ H _ I h=>Constant_bool ⟨.bl b,H,I,rfl,h⟩
def Gl(X:Cx)(x:Str):Prop:=X.env.kindOf x=some .globalImplicit
theorem m9{E:Value->Shared->Prop}{pos:Pos}(I:Inv X jn σ H s)(hg:Gl X x)(hm:X.mg x=some u)(h:Q u s)
  (hd:(x == ("__debug__" : Str))=false:=by decide):wpAny (model X.prog X.w) X.A (eval (.Name x pos) X.env) Q E s:=
 Calls.Name_function_global I.ok.kind hg (Calls.loadGlobal_global (by rw[I.ok.glob];exact I.mod.glob.keeps I.bk) hm h) hd
theorem cD{E:Value->Shared->Prop}{pos:Pos}(I:Inv X jn σ H s)(hg:Gl X x)(hm:X.mg x=none)(hv:bootBuiltins x=some u)(h:Q u s)
  (hn:x ≠ "__name__" := by decide) (hd:(x == ("__debug__" : Str))=false:=by decide):wpAny (model X.prog X.w) X.A (eval (.Name x pos) X.env) Q E s:=by
 obtain⟨mb,h1,h2⟩:=I.mod.blt;exact Calls.Name_function_global I.ok.kind hg (Calls.loadGlobal_builtin (by rw[I.ok.glob];exact I.mod.glob.keeps I.bk) hm (by rw[I.ok.blt];exact h1.keeps I.bk) ((h2 x hn).trans hv) h) hd
theorem zg{pos:Pos}(hg:Gl X x)(hm:X.mg x=some u)(r:RelV v u)(hd:(x == ("__debug__" : Str))=false:=by decide):PE X (.Name x pos) (tC v):=
 fun _ _ _ H _ I h=>m9 I hg hm ⟨v,H,I,r,h⟩ hd
theorem zh{pos:Pos}(hg:Gl X x)(hm:X.mg x=none)(hv:bootBuiltins x=some u)(r:RelV v u)(hn:x ≠ "__name__" := by decide)(hd:(x == ("__debug__" : Str))=false:=by decide):PE X (.Name x pos) (tC v):=
 fun _ _ _ H _ I h=>cD I hg hm hv ⟨v,H,I,r,h⟩ hn hd
variable{a b:Expr}{ta tb:TE}{pos:Pos}
def tB(t:TE):TT:=fun σ H Q=>t σ H fun x H1=>∃c,x=.bl c/\Q c H1
theorem Df{e:Expr}(h:PE X e t)(he:∀whole,isTrue e X.env whole=(do let v <- whole;standAt e.pos;holding [v] (truthy v)):=by intro _;rfl):PT X e (tB t):=by intro jn s σ H Q I hw;refine isTrue_plain (thn (h jn s σ H _ I hw) fun v s1 ⟨x,H1,I1,r1,q1⟩=>?_) (he _);obtain⟨d,rfl,q⟩:=q1;cases r1;exact wpAny_truthy_bool ⟨H1,I1,q⟩
variable{tA tB':TT}{xN:List Expr}
def lg(t u:TT):TT:=fun σ H Q=>t σ H fun c H1=>if c=true then u σ H1 Q else Q false H1
def tOr(t u:TT):TT:=fun σ H Q=>t σ H fun c H1=>if c=true then Q true H1 else u σ H1 Q
def dg(t:TT):TT:=fun σ H Q=>t σ H fun c H1=>Q (!c) H1
theorem pw_and1(ha:PT X a tA):PW X (.BoolOp .And [a] pos) tA:=by
 intro wh jn s σ H Q I h;refine isTrue_and (thn (ha jn s σ H Q I h) fun c s1 e=>?_);cases c with
 |true=>exact isTrue_and_nil e
 |false=>exact e
theorem pw_or1(ha:PT X a tA):PW X (.BoolOp .Or [a] pos) tA:=by
 intro wh jn s σ H Q I h;refine isTrue_or (thn (ha jn s σ H Q I h) fun c s1 e=>?_);cases c with
 |false=>exact isTrue_or_nil e
 |true=>exact e
theorem pw_and(ha:PT X a tA)(hb:PW X (.BoolOp .And (b::xN) pos) tB'):PW X (.BoolOp .And (a::b::xN) pos) (lg tA tB'):=by
 intro wh jn s σ H Q I h;refine isTrue_and (thn (ha jn s σ H _ I h) fun c s1 ⟨H1,I1,q1⟩=>?_);cases c with
 |true=>exact hb wh jn s1 σ H1 Q I1 q1
 |false=>exact⟨H1,I1,q1⟩
theorem pw_or(ha:PT X a tA)(hb:PW X (.BoolOp .Or (b::xN) pos) tB'):PW X (.BoolOp .Or (a::b::xN) pos) (tOr tA tB'):=by
 intro wh jn s σ H Q I h;refine isTrue_or (thn (ha jn s σ H _ I h) fun c s1 ⟨H1,I1,q1⟩=>?_);cases c with
 |true=>exact⟨H1,I1,q1⟩
 |false=>exact hb wh jn s1 σ H1 Q I1 q1
theorem Dg(ha:PT X a tA):PT X (.UnaryOp .Not a pos) (dg tA):=by intro jn s σ H Q I h;exact isTrue_not (ha jn s σ H (fun c H1=>Q (!c) H1) I h)
def BI(ta tb:TE):TE:=fun σ H Q=>ta σ H fun x H1=>∃c,x=.bl c/\if c=true then tb σ H1 Q else Q (.bl false) H1
def BJ(ta:TE):TE:=fun σ H Q=>ta σ H fun x H1=>∃c,x=.bl c/\Q (.bl (!c)) H1
theorem Dh{op}(h:PE X a t):PE X (.BoolOp op [a] pos) t:=fun jn s σ H Q I hw=>BoolOp_one (h jn s σ H Q I hw)
theorem Di(ha:PE X a ta)(hb:PE X (.BoolOp .And (b::xN) pos) tb):PE X (.BoolOp .And (a::b::xN) pos) (BI ta tb):=by
 intro jn s σ H Q I h;refine BoolOp_and (thn (ha jn s σ H _ I h) fun v s1 ⟨x,H1,I1,r1,q1⟩=>?_);obtain⟨c,rfl,q1⟩:=q1;cases r1;refine wpAny_truthy_bool ?_;cases c with
 |true=>exact hb jn s1 σ H1 Q I1 q1
 |false=>exact⟨.bl false,H1,I1,rfl,q1⟩
theorem Dj(ha:PE X a ta):PE X (.UnaryOp .Not a pos) (BJ ta):=by intro jn s σ H Q I h;refine UnaryOp_ (thn (ha jn s σ H _ I h) fun v s1 ⟨x,H1,I1,r1,q1⟩=>?_);obtain⟨c,rfl,q1⟩:=q1;cases r1;exact not_of (wpAny_truthy_bool ⟨.bl (!c),H1,I1,rfl,q1⟩)
def tIf(t:TT)(ta tb:TE):TE:=fun σ H Q=>t σ H fun c H1=>if c=true then ta σ H1 Q else tb σ H1 Q
theorem vv{c:Expr}(hc:PT X c tA)(ha:PE X a ta)(hb:PE X b tb):PE X (.IfExp c a b pos) (tIf tA ta tb):=by
 intro jn s σ H Q I h;refine wpAny_IfExp (thn (hc jn s σ H _ I h) fun d s1 ⟨H1,I1,q1⟩=>?_);cases d with
 |true=>exact ha jn s1 σ H1 Q I1 q1
 |false=>exact hb jn s1 σ H1 Q I1 q1
end
end
def SqL(K:gb)(H:Hp)(a:Addr)(xs:List V):Prop:=
 Rd H a (.lst xs) \/
  ∃(o:Obj) (its:Array Value) (n:Nat),K.lookup a=some o/\o.cls=.type "list" /\ o.dict=none/\o.data=.seq its n/\its.size<=sizeLine/\Vals xs its.toList
def SqT(K:gb)(H:Hp)(a:Addr)(xs:List V):Prop:=
 Rd H a (.tup xs) \/
  ∃(o:Obj) (its:Array Value) (n:Nat),K.lookup a=some o/\o.cls=.type "tuple" /\ o.data=.seq its n/\its.size<=sizeLine/\Vals xs its.toList
noncomputable def Ju:Value->Option V
 |.none=>some .non
 |.bool b=>some (.bl b)
 |.int i _=>some (.int i)
 |.str x _=>some (.str x)
 |.bytes b _=>some (.byt b)
 |.float b _=>some (.flt b)
 |.ref a=>some (.ref a)
 |.type n=>some (.ty n)
 |_=>none
theorem RelV.abs{x:V}{u:Value}(r:RelV x u):Ju u=some x:=by
 cases x with
 |non=>cases r;rfl
 |bl _=>cases r;rfl
 |int _=>obtain⟨t,rfl⟩:=r;rfl
 |str _=>obtain⟨t,rfl⟩:=r;rfl
 |byt _=>obtain⟨t,rfl⟩:=r;rfl
 |flt _=>obtain⟨t,rfl⟩:=r;rfl
 |ref _=>cases r;rfl
 |ty _=>cases r;rfl
theorem RelV.inj{x y:V}{u:Value}(r:RelV x u)(q:RelV y u):x=y:=Option.some.inj (r.abs.symm.trans q.abs)
theorem Vals.inj:∀{xs ys:List V} {us:List Value},Vals xs us->Vals ys us->xs=ys
 |_,_,_,.nil,.nil=>rfl
 |_,_,_,.cons r t,.cons r' t'=>by rw[r.inj r',Vals.inj t t']
section
variable{X:Cx}{jn:List (Addr×Obj)}{σ:St}{H:Hp}{s:Shared}{a:Addr}{xs ys:List V}
theorem SqT.of{K:gb}(h:H a=some (.tup xs)):SqT K H a xs:=.inl (.inl h)
theorem Inv.list(I:Inv X jn σ H s)(h:SqL X.K H a xs):∃its:List Value,Vals xs its/\PlainL s.heap a its.toArray/\xs.length<=sizeLine:=by
 rcases h with h | ⟨o,its,n,hk,hc,hd,hs,hz,r⟩
 ·obtain⟨z,its,n,r,e⟩:=h.ok I.hok;exact⟨its,r,⟨_,n,e,rfl,rfl,rfl⟩,z⟩
 ·refine⟨its.toList,r,⟨o,n,I.kIn a o hk,hc,hd,by simpa using hs⟩,?_⟩;have e:=r.length;simp only[KR]at e
  lia
theorem Inv.tuple(I:Inv X jn σ H s)(h:SqT X.K H a xs):∃its:List Value,Vals xs its/\IsTup s.heap a its.toArray/\xs.length<=sizeLine:=by
 rcases h with h | ⟨o,its,n,hk,hc,hs,hz,r⟩
 ·obtain⟨z,its,r,p⟩:=h.ok I.hok;exact⟨its,r,p,z⟩
 ·refine⟨its.toList,r,⟨o,I.kIn a o hk,hc,n,by simpa using hs⟩,?_⟩;have e:=r.length;simp only[KR]at e
  lia
theorem Inv.eU(I:Inv X jn σ H s)(h:SqL X.K H a xs)(h':SqL X.K H a ys):xs=ys:=by
 obtain⟨its,r,⟨o,n,e,_,_,d⟩,_⟩:=I.list h;obtain⟨its',r',⟨o',n',e',_,_,d'⟩,_⟩:=I.list h';rw[e]at e';cases e';rw[d]at d';injection d' with d1 _
 have:its=its':=by simpa using congrArg Array.toList d1
 subst this;exact r.inj r'
theorem Inv.ua(I:Inv X jn σ H s)(h:SqT X.K H a xs)(h':SqT X.K H a ys):xs=ys:=by
 obtain⟨its,r,⟨o,e,_,n,d⟩,_⟩:=I.tuple h;obtain⟨its',r',⟨o',e',_,n',d'⟩,_⟩:=I.tuple h';rw[e]at e';cases e';rw[d]at d';injection d' with d1 _
 have:its=its':=by simpa using congrArg Array.toList d1
 subst this;exact r.inj r'
end
noncomputable abbrev Cx.jG(X:Cx)(E:Value->Shared->Prop):Cx:={ X with xe:=E }
noncomputable abbrev Cx.nox(X:Cx):Cx:=X.jG fun _ _=>False
theorem Cx.Ok.jG{X:Cx}(ok:X.Ok)(E:Value->Shared->Prop):(X.jG E).Ok:=
 ⟨ok.mod,ok.kind,ok.glob,ok.blt,ok.above,ok.inj,ok.has,ok.cab,ok.hd,ok.frames,ok.stk,ok.exf,ok.bs,ok.bsz,ok.vt,ok.zf,ok.jh,ok.frf⟩
theorem Cx.Ok.dU{X:Cx}{E:Value->Shared->Prop}(ok:(X.jG E).Ok):X.Ok:=
 ⟨ok.mod,ok.kind,ok.glob,ok.blt,ok.above,ok.inj,ok.has,ok.cab,ok.hd,ok.frames,ok.stk,ok.exf,ok.bs,ok.bsz,ok.vt,ok.zf,ok.jh,ok.frf⟩
section
variable{X:Cx}{jn:List (Addr×Obj)}{σ:St}{H:Hp}{s:Shared}{E:Value->Shared->Prop}
theorem Inv.jG(I:Inv X jn σ H s)(E:Value->Shared->Prop):Inv (X.jG E) jn σ H s:=⟨I.ok.jG E,I.os,I.bare,I.base,I.loc,I.cell,I.free,I.eT,I.pin,I.hok,I.len⟩
theorem Inv.dU(I:Inv (X.jG E) jn σ H s):Inv X jn σ H s:=⟨I.ok.dU,I.os,I.bare,I.base,I.loc,I.cell,I.free,I.eT,I.pin,I.hok,I.len⟩
theorem SP.dU{D:Ends}{f:Flow}{s':Shared}(h:SP (X.jG E) jn D f s'):SP X jn D f s':=by
 cases f with
 |next=>obtain⟨σ',H',I,q⟩:=h;exact⟨σ',H',I.dU,q⟩
 |brk=>obtain⟨σ',H',I,q⟩:=h;exact⟨σ',H',I.dU,q⟩
 |cont=>obtain⟨σ',H',I,q⟩:=h;exact⟨σ',H',I.dU,q⟩
 |ret u=>obtain⟨v,σ',H',I,r,q⟩:=h;exact⟨v,σ',H',I.dU,r,q⟩
theorem PE.nox{e:Expr}{t:TE}(h:PE X.nox e t):PE X e t:=fun jn s σ H Q I hw=>wpAny_mono (h jn s σ H Q (I.jG _) hw) (fun _ _ ⟨v,H',I',r,q⟩=>⟨v,H',I'.dU,r,q⟩) fun _ _ z=>K9 z
theorem PSs.nox{st:List Stmt}{t:TS}(h:PSs X.nox st t):PSs X st t:=fun jn s σ H D I hw=>wpAny_mono (h jn s σ H D (I.jG _) hw) (fun _ _ q=>q.dU) fun _ _ z=>K9 z
end
section
variable{X:Cx}{st:Stmt}{xN:List Stmt}{t u:TS}{e:Expr}{te:TE}{pos:Pos}
def oU:TS:=fun D σ H=>D.nx σ H
def jH(t u:TS):TS:=fun D σ H=>t { D with nx:=u D } σ H
theorem ju:PSs X [] oU:=fun _ _ σ H _ I h=>wpAny_execs_nil ⟨σ,H,I,h⟩
theorem bU(h1:PS X st t)(h2:PSs X xN u):PSs X (st::xN) (jH t u):=by
 intro jn s σ H D I h;refine wpAny_execs_cons (thn (h1 jn s σ H { D with nx:=u D } I h) fun f s1 q=>?_);cases f with
 |next=>obtain⟨σ',H',I',q⟩:=q;exact h2 jn s1 σ' H' D I' q
 |ret v=>exact q
 |brk=>exact q
 |cont=>exact q
theorem gM(h1:PS X st t):PSs X [st] t:=by
 intro jn s σ H D I h;refine wpAny_execs_cons (thn (h1 jn s σ H D I h) fun f s1 q=>?_);cases f with
 |next=>exact wpAny_execs_nil q
 |ret v=>exact q
 |brk=>exact q
 |cont=>exact q
theorem Inv.quiet{jn:List (Addr×Obj)}{σ:St}{H:Hp}{s:Shared}(I:Inv X jn σ H s):interactive X.env=false:=by simp[interactive,I.ok.kind]
def oV(te:TE):TS:=fun D σ H=>te σ H fun _ H1=>D.nx σ H1
theorem jv(he:PE X e te)(hs:swapsWith e none pos.line X.env=pure false:=by rfl):PS X (.Expr e pos) (oV te):=by intro jn s σ H D I h;exact wpAny_Expr_any (thn (he jn s σ H _ I h) fun v s1 ⟨x,H1,I1,r1,q1⟩=>⟨σ,H1,I1,q1⟩) I.quiet hs
def uc(te:TE):TS:=fun D σ H=>te σ H D.rt
theorem jI(he:PE X e te):PS X (.Return (some e) pos) (uc te):=by intro jn s σ H D I h;exact wpAny_Return_some (thn (he jn s σ H _ I h) fun v s1 ⟨x,H1,I1,r1,q1⟩=>⟨x,σ,H1,I1,r1,q1⟩)
def vz(c:TT)(t u:TS):TS:=fun D σ H=>c σ H fun b H1=>if b=true then t D σ H1 else u D σ H1
theorem rX{c:Expr}{a b:List Stmt}{tc:TT}(hc:PT X c tc)(ha:PSs X a t)(hb:PSs X b u):PS X (.If c a b pos) (vz tc t u):=by
 intro jn s σ H D I h;refine wpAny_If (thn (hc jn s σ H _ I h) fun d s1 ⟨H1,I1,q1⟩=>?_);cases d with
 |true=>exact ha jn s1 σ H1 D I1 q1
 |false=>exact hb jn s1 σ H1 D I1 q1
def Dl:TS:=fun _ _ _=>False
theorem vA:PS X st Dl:=fun _ _ _ _ _ _ h=>h.elim
end
noncomputable abbrev TG:=V->St->Hp->(St->Hp->Prop)->Prop
noncomputable abbrev TGs:=List V->St->Hp->(St->Hp->Prop)->Prop
def PG(X:Cx)(target:Expr)(t:TG):Prop:=
 ∀(jn:List (Addr×Obj)) (s:Shared) (σ:St) (H:Hp) (v:V) (u:Value) (Q:St->Hp->Prop),Inv X jn σ H s->RelV v u->t v σ H Q ->
  wpAny (model X.prog X.w) X.A (assign target X.env u) (fun _ s'=>∃σ' H',Inv X jn σ' H' s'/\Q σ' H') X.xe s
def PGs(X:Cx)(ts:List Expr)(t:TGs):Prop:=
 ∀(jn:List (Addr×Obj)) (s:Shared) (σ:St) (H:Hp) (vs:List V) (us:List Value) (Q:St->Hp->Prop),Inv X jn σ H s->Vals vs us->t vs σ H Q ->
  wpAny (model X.prog X.w) X.A (assignInOrder ((assignEach ts X.env).map (·.2)) us) (fun _ s'=>∃σ' H',Inv X jn σ' H' s'/\Q σ' H') X.xe s
noncomputable abbrev Dq:=V->V->V->Hp->(Hp->Prop)->Prop
def Gx(X:Cx)(t:Dq):Prop:=
 ∀(jn:List (Addr×Obj)) (s:Shared) (σ:St) (H:Hp) (o i v:V) (ov iv u:Value) (Q:Hp->Prop),Inv X jn σ H s->RelV o ov->RelV i iv->RelV v u->t o i v H Q ->
  wpAny (model X.prog X.w) X.A (setItem ov iv u) (fun _ s'=>∃H',Inv X jn σ H' s'/\Q H') X.xe s
section
variable{X:Cx}{pos:Pos}
section
variable{es:List Expr}{e:Expr}{x:Str}{i:Nat}{te:TE}
def fY(i:Nat):TG:=fun v σ H Q=>Q (σ.set i (some v)) H
theorem gO(hN:X.N.Nodup)(hi:X.N[i]?=some x)(hx:Loc X.env.scope x)(hf:X.fn x=true\/X.env.scope.names.lookup x=some .local:=by trivial):PG X (.Name x pos) (fY i):=by intro jn s σ H v u Q I r h;exact wpAny_assign_Name (oS I hN hi hx r (fun s' I'=>⟨_,H,I',h⟩) hf)
def Gy:TGs:=fun vs σ H Q=>vs=[]/\Q σ H
def BK(t:TG)(u:TGs):TGs:=fun vs σ H Q=>∃v r,vs=v::r/\t v σ H fun σ' H'=>u r σ' H' Q
theorem rY:PGs X [] Gy:=by intro jn s σ H vs us Q I r h;obtain⟨e,h⟩:=h;subst e;cases r;exact assignInOrder_nil ⟨σ,H,I,h⟩
theorem jJ{t:TG}{u:TGs}(h1:PG X e t)(h2:PGs X es u)
  (hs:(assignEach (e::es) X.env).map (·.2)=assign e X.env::(assignEach es X.env).map (·.2):=by rfl):PGs X (e::es) (BK t u):=by
 intro jn s σ H vs us Q I r h;obtain⟨v,vr,e1,h⟩:=h;subst e1;cases r with
 |cons r rr=>rw[hs];refine assignInOrder_cons (thn (h1 jn s σ H _ _ _ I r h) fun _ s1 ⟨σ1,H1,I1,q1⟩=>?_);exact h2 jn s1 σ1 H1 _ _ Q I1 rr q1
def Dr(K:gb)(n:Nat)(t:TGs):TG:=fun v σ H Q=>∃a xs,v=.ref a/\SqT K H a xs/\xs.length=n/\t xs σ H Q
theorem qD{k:Nat}{t:TGs}{n:Nat}(hc:X.calm=true)(h:PGs X es t)
  (hn:(assignEach es X.env).length=n:=by rfl) (hst:(assignEach es X.env).findIdx? (·.1)=none:=by rfl):PG X (.Tuple es k pos) (Dr X.K n t):=by
 intro jn s σ H v u Q I r hw;obtain⟨a,xs,e1,hq,hl,hw⟩:=hw;subst e1;cases r;obtain⟨its,rv,ht,hz⟩:=I.tuple hq;refine assign_Tuple_tuple (I.ok.hd hc) ht (by simp[hn,<- hl,rv.length]) hst fun h' hx=>?_;have I1:Inv X jn σ H { s with heap:=h' }:=I.kept (t':=s.toks) fun b o e=>hx b o (KP (KC e)) e;exact h jn _ σ H xs _ Q I1 (by simpa using rv) hw
def iM(to ti:TE)(t:Dq):TG:=fun v σ H Q=>to σ H fun o H1=>ti σ H1 fun i H2=>t o i v H2 fun H3=>Q σ H3
theorem Dt{o i:Expr}{to ti:TE}{t:Dq}(ho:PE X o to)(hi:PE X i ti)(hs:Gx X t)
  (ha:∀ v,assign (.Subscript o i pos) X.env v=(do
   let ov <- holding [v] (eval o X.env)
   let iv <- holding [v,ov] (eval i X.env)
   standAt pos
   holding [v,ov,iv] (setItem ov iv v)
   release [v,ov,iv] []):=by intro _;rfl):PG X (.Subscript o i pos) (iM to ti t):=by
 intro jn s σ H v u Q I r h;rw[ha];refine wpAny_bind (wpAny_holding (thn (ho jn s σ H _ I h) fun ov s1 ⟨x,H1,I1,r1,q1⟩=>?_));refine wpAny_bind (wpAny_holding (thn (hi jn s1 σ H1 _ I1 q1) fun iv s2 ⟨y,H2,I2,r2,q2⟩=>?_));refine wpAny_bind (wpAny_standAt (wpAny_bind (wpAny_holding (thn (hs jn s2 σ H2 x y v ov iv u _ I2 r1 r2 r q2) fun _ s3 ⟨H3,I3,q3⟩=>?_))));exact wpAny_release ⟨σ,H3,I3,q3⟩
def ng(te:TE)(g:TG):TS:=fun D σ H=>te σ H fun x H1=>g x σ H1 D.nx
theorem vC{tg e:Expr}{g:TG}(he:PE X e te)(hg:PG X tg g)(hs:swapsWithSole [tg] e pos.line X.env=pure false:=by rfl)(hw:swappedStores [tg] e X.env=pure none:=by rfl)
  (h1:(assignEach [tg] X.env).map (·.2)=[assign tg X.env]:=by rfl):PS X (.Assign [tg] e pos) (ng te g):=by
 intro jn s σ H D I h;refine wpAny_Assign_stores (thn (he jn s σ H _ I h) fun v s1 ⟨x,H1,I1,r1,q1⟩=>?_) hs hw;rw[h1];exact thn (hg jn s1 σ H1 x v _ I1 r1 q1) fun _ s2 q=>q
theorem vD{pos':Pos}(hN:X.N.Nodup)(hi:X.N[i]?=some x)(hx:Loc X.env.scope x)(he:PE X e te)(hs:swapsWith e (some (.Name x pos')) pos.line X.env=pure false:=by rfl)(hf:X.fn x=true\/X.env.scope.names.lookup x=some .local:=by trivial) :
  PS X (.Assign [.Name x pos'] e pos) (ng te (fY i)):=by
 intro jn s σ H D I h;refine wpAny_Assign_Name (thn (he jn s σ H _ I h) fun v s1 ⟨y,H1,I1,r1,q1⟩=>?_) hs;exact oS I1 hN hi hx r1 (fun s2 I2=>⟨_,H1,I2,q1⟩) hf
end
end
section
variable{P:Program}{tg:Expr}{w:World}{s:Shared}
structure It where
 go:Nat->Hp->Prop
 yld:Nat->Hp->V->Hp->Prop
 stop:Nat->Hp->Prop
def jK(X:Cx)(jn:List (Addr×Obj))(H:Hp)(b:Addr):Prop:=
 H b=none/\b≠X.env.locals/\b∉X.fs/\(b∈X.ex\/X.s₀.heap.objs.size<=b)/\(∀x c,X.env.cells.lookup x=some c->c≠b)/\∀p∈X.pn++jn,p.1≠b
theorem Inv.oW{X:Cx}{jn:List (Addr×Obj)}{σ:St}{H H':Hp}{b:Addr}(I:Inv X jn σ H s)(hb:s.heap.objs.size<=b)(hn:H' b=none):jK X jn H' b:=by
 refine⟨hn,LM (KN I.lt hb),I.Dd hb,.inr (Nat.le_trans I.sz hb),fun x c e z=>?_,fun p hp z=>?_⟩
 ·obtain⟨v,q⟩:=I.cell x c e;exact absurd (KN q.lt (by rw[z];exact hb)) (Ls _)
 ·exact absurd (KN (KC (I.pin p hp).1) (by rw[z];exact hb)) (Ls _)
structure Turn(P:Program)(w:World)(K:gb)(tg:Expr)(J:It)(fp:List Addr)(it:Addr)(tn:Nat->Heap->Prop)(CC:Cx->Prop:=fun X=>X.calm=true):Prop where
 mem:it∈fp
 obj:∀i h,tn i h->∀b∈fp,∃o,h.get? b=some o/\∀v,o.data≠.cell v
 keep:∀i h h',tn i h->(∀b∈fp,∀o,h.get? b=some o->h'.get? b=some o)->tn i h'
 item:∀(X:Cx),X.prog=P->X.w=w->X.K=K->CC X->∀(i:Nat) (jn:List (Addr×Obj)) (s:Shared) (σ:St) (H:Hp) (E:Value->Shared->Prop),Inv X jn σ H s->(∀b∈fp,jK X jn H b)->tn i s.heap->J.go i H ->
  wpAny (model P w) X.A (pyNext (.ref it)) (fun r s1=>∃ u,r=some u ∧
   wpAny (model P w) X.A (letOwnedTupleGo tg (.ref it) u) (fun _ s2=>∃x H',Inv X jn σ H' s2/\RelV x u/\J.yld i H x H'/\tn (i+1) s2.heap/\∀b∈fp,H' b=none) E s1) E s
 done:∀(X:Cx),X.prog=P->X.w=w->X.K=K->CC X->∀(i:Nat) (jn:List (Addr×Obj)) (s:Shared) (σ:St) (H:Hp) (E:Value->Shared->Prop),Inv X jn σ H s->(∀b∈fp,jK X jn H b)->tn i s.heap->J.stop i H ->
  wpAny (model P w) X.A (pyNext (.ref it)) (fun r s1=>r=none/\Inv X jn σ H s1) E s
 self:∀(A:Around) (i:Nat) (s:Shared) (Q:Value->Shared->Prop) (E:Value->Shared->Prop),tn i s.heap->Q (.ref it) s->wpAny (model P w) A (pyIter (.ref it)) Q E s
noncomputable abbrev TI:=St->Hp->(It->Hp->Prop)->Prop
def PIE(X:Cx)(jn:List (Addr×Obj))(σ:St)(tg:Expr)(R:It->Hp->Prop)(itv:Value)(s2:Shared):Prop:=
 ∃(it:Addr) (fp:List Addr) (tn:Nat->Heap->Prop) (J:It) (H':Hp),itv=.ref it/\Inv X jn σ H' s2/\Turn X.prog X.w X.K tg J fp it tn/\tn 0 s2.heap/\(∀b∈fp,jK X jn H' b)/\R J H'
def PI(X:Cx)(tg iter:Expr)(wi:TI):Prop:=
 ∀(jn:List (Addr×Obj)) (s:Shared) (σ:St) (H:Hp) (R:It->Hp->Prop),Inv X jn σ H s->wi σ H R ->
  wpAny (model X.prog X.w) X.A (eval iter X.env) (fun v s1=>wpAny (model X.prog X.w) X.A (pyIter v) (PIE X jn σ tg R) X.xe s1) X.xe s
theorem oX{M:Model}{A:Around}{E:Value->Shared->Prop}{tg:Expr}{it:Addr}{u:Value}{o:Obj}{n:String}{vs:Array Value}{Q:Unit->Shared->Prop}(ho:s.heap.get? it=some o)(hc:o.cls=.type n)(hd:o.data=.fields vs)
  (hn:["enumerate","zip","dict_itemiterator","dict_reverseitemiterator","odict_iterator","itertools.zip_longest","itertools.pairwise"].contains n=false) (hQ:Q () s):wpAny M A (letOwnedTupleGo tg (.ref it) u) Q E s:=by
 unfold letOwnedTupleGo;cases tg<;>first
  |exact wpAny_pure hQ
  | (cases u<;>first
    |exact wpAny_pure hQ
    | (refine wpAny_bind (wpAny_load ho ?_)
       rw[hc,hd];show wpAny M A (if (["enumerate","zip","dict_itemiterator","dict_reverseitemiterator","odict_iterator","itertools.zip_longest","itertools.pairwise"].contains n&&vs[0]? == some (rawInt _))=true then _ else _) Q E s;rw[if_neg (by intro h;rw[hn,Bool.false_and]at h;cases h)];exact wpAny_pure hQ))
noncomputable def Itl(K:gb)(a:Addr):It:=
 ⟨fun i H=>∃xs x,SqL K H a xs/\xs[i]?=some x,fun i H x H'=>H'=H/\∀xs,SqL K H a xs->xs[i]?=some x,fun i H=>∃xs,SqL K H a xs/\xs.length<=i⟩
noncomputable def Itt(K:gb)(a:Addr):It:=
 ⟨fun i H=>∃xs x,SqT K H a xs/\xs[i]?=some x,fun i H x H'=>H'=H/\∀xs,SqT K H a xs->xs[i]?=some x,fun i H=>∃xs,SqT K H a xs/\xs.length<=i⟩
noncomputable def Itr(lo:Int)(n:Nat):It:=⟨fun i _=>i<n,fun i H x H'=>H'=H/\x=.int (lo+i),fun i _=>n<=i⟩
theorem ud{K:gb}(a it:Addr):Turn P w K tg (Itl K a) [it] it (fun i h=>h.IsListIter it a i) where
 mem:=by simp
 obj:=fun i h st b hb=>by
  have e:b=it:=by simpa using hb
  subst e;obtain⟨o,e,c,d⟩:=st;exact⟨o,e,fun v z=>by rw[d]at z;cases z⟩
 keep:=fun i h h' st k=>st.at fun o e=>k it (by simp) o e
 item:=by intro X hP hw hK hc i jn s σ H E I hf st hg;subst hP hw hK;obtain⟨xs,x,hq,hx⟩:=hg;obtain⟨its,rv,p,hz⟩:=I.list hq;obtain⟨u,hu,ru⟩:=rv.get hx;obtain⟨f0,f1,f2,f3,f4,f5⟩:=hf it (by simp);refine wpAny_pyNext_list_item st p.isList (x:=u) (by simpa using hu) fun h' st' sb=>?_;have I1:Inv X jn σ H { s with heap:=h' }:=I.turned (t':=s.toks) (fun b o hb e=>(sb.2 b hb).trans e) f0 f1 f3 f4 f5;obtain⟨o,e,c,d⟩:=id st';exact⟨u,rfl,oX (s:={ s with heap:=h' }) e c d (by decide) ⟨x,H,I1,ru,⟨rfl,fun ys hy=>by rw[I.eU hy hq];exact hx⟩,st',fun b hb=>(hf b hb).1⟩⟩
 done:=by intro X hP hw hK hc i jn s σ H E I hf st hg;subst hP hw hK;obtain⟨xs,hq,hx⟩:=hg;obtain⟨its,rv,p,hz⟩:=I.list hq;obtain⟨f0,f1,f2,f3,f4,f5⟩:=hf it (by simp);have hl:=rv.length;exact wpAny_pyNext_list_end (I.ok.hd hc) st p.isList (by simp;lia) fun h' eb=>⟨rfl,I.turned (t':=s.toks) (fun b o hb e=>eb b o hb e) f0 f1 f3 f4 f5⟩
 self:=fun _ _ _ _ _ st h=>wpAny_pyIter_listiter st h
theorem qE{K:gb}(a it:Addr):Turn P w K tg (Itt K a) [it] it (fun i h=>h.IsTupleIter it a i) where
 mem:=by simp
 obj:=fun i h st b hb=>by
  have e:b=it:=by simpa using hb
  subst e;obtain⟨o,e,c,d⟩:=st;exact⟨o,e,fun v z=>by rw[d]at z;cases z⟩
 keep:=fun i h h' st k=>st.at fun o e=>k it (by simp) o e
 item:=by intro X hP hw hK hc i jn s σ H E I hf st hg;subst hP hw hK;obtain⟨xs,x,hq,hx⟩:=hg;obtain⟨its,rv,p,hz⟩:=I.tuple hq;obtain⟨u,hu,ru⟩:=rv.get hx;obtain⟨f0,f1,f2,f3,f4,f5⟩:=hf it (by simp);refine wpAny_pyNext_tuple_item st (show s.heap.IsTuple a its.toArray from p) (x:=u) (by simpa using hu) fun h' st' sb=>?_;have I1:Inv X jn σ H { s with heap:=h' }:=I.turned (t':=s.toks) (fun b o hb e=>(sb.2 b hb).trans e) f0 f1 f3 f4 f5;obtain⟨o,e,c,d⟩:=id st';exact⟨u,rfl,oX (s:={ s with heap:=h' }) e c d (by decide) ⟨x,H,I1,ru,⟨rfl,fun ys hy=>by rw[I.ua hy hq];exact hx⟩,st',fun b hb=>(hf b hb).1⟩⟩
 done:=by intro X hP hw hK hc i jn s σ H E I hf st hg;subst hP hw hK;obtain⟨xs,hq,hx⟩:=hg;obtain⟨its,rv,p,hz⟩:=I.tuple hq;obtain⟨f0,f1,f2,f3,f4,f5⟩:=hf it (by simp);have hl:=rv.length;exact wpAny_pyNext_tuple_end (I.ok.hd hc) st (show s.heap.IsTuple a its.toArray from p) (by simp;lia) fun h' eb=>⟨rfl,I.turned (t':=s.toks) (fun b o hb e=>eb b o hb e) f0 f1 f3 f4 f5⟩
 self:=fun _ _ _ _ _ st h=>wpAny_pyIter_tupleiter st h
theorem qF{K:gb}(it:Addr)(lo:Int)(n:Nat):Turn P w K tg (Itr lo n) [it] it (fun i h=>IsRangeIter h it (lo+(i:Nat)*1) ((n:Int)-(i:Nat)) 1) where
 mem:=by simp
 obj:=fun i h st b hb=>by
  have e:b=it:=by simpa using hb
  subst e;exact ⟨_,st,fun v z=>by have z':NQ _=Nl v:=z;cases z'⟩
 keep:=fun i h h' st k=>k it (by simp) _ st
 item:=by intro X hP hw hK hc i jn s σ H E I hf st hg;subst hP hw hK;obtain⟨f0,f1,f2,f3,f4,f5⟩:=hf it (by simp);have W:=Walks.range (prog:=X.prog) (w:=X.w) (I.ok.hd hc) it lo 1 n;refine W.item i s _ _ hg st fun v h' tk hv st' kk=>?_;obtain⟨t,rfl⟩:=hv;have I1:Inv X jn σ H { s with heap:=h',toks:=tk }:=I.turned (fun b o hb e=>kk b o (by simpa using hb) e) f0 f1 f3 f4 f5;refine⟨_,rfl,oX (s:={ s with heap:=h',toks:=tk }) (n := "range_iterator") st' rfl rfl (by decide) ⟨.int (lo+i),H,I1,⟨t,?_⟩,⟨rfl,rfl⟩,st',fun b hb=>(hf b hb).1⟩⟩;rw[Int.mul_one]
 done:=by intro X hP hw hK hc i jn s σ H E I hf st hg;subst hP hw hK;obtain⟨f0,f1,f2,f3,f4,f5⟩:=hf it (by simp);exact wpAny_pyNext_range_end (I.ok.hd hc) st (by have:n<=i:=hg;lia) fun h' eb=>⟨rfl,I.turned (t':=s.toks) (fun b o hb e=>eb b o hb e) f0 f1 f3 f4 f5⟩
 self:=fun _ _ _ _ _ st h=>wpAny_pyIter_rangeiter st h
end
section
variable{X:Cx}{tg:Expr}
section
variable{jn:List (Addr×Obj)}{fp:List Addr}{s:Shared}{H:Hp}{σ:St}{l:Expr}{h:Heap}{tl:TE}{ta:TA}
def oY(K:gb)(tl:TE):TI:=fun σ H R=>tl σ H fun x H1=>∃a,x=.ref a/\(∃xs,SqL K H1 a xs)/\R (Itl K a) H1
def vE(K:gb)(tl:TE):TI:=fun σ H R=>tl σ H fun x H1=>∃a,x=.ref a/\(∃xs,SqT K H1 a xs)/\R (Itt K a) H1
theorem rZ(hl:PE X l tl):PI X tg l (oY X.K tl):=by
 intro jn s σ H R I h;refine thn (hl jn s σ H _ I h) fun v s1 ⟨x,H1,I1,r1,q1⟩=>?_;obtain⟨a,e,⟨xs,hq⟩,q⟩:=q1;subst e;cases r1;obtain⟨its,rv,p,hz⟩:=I1.list hq;refine wpAny_pyIter_list p.isList ?_;refine⟨s1.heap.objs.size,[s1.heap.objs.size],_,_,H1,rfl,I1.kept (t':=s1.toks) fun b o e=>Ds _ e,ud a _,⟨_,KU _ rfl,rfl,rfl⟩,fun b hb=>?_,q⟩;have e:b=s1.heap.objs.size:=by simpa using hb
 subst e;exact I1.oW (Nat.le_refl _) (I1.hok.fresh (Nat.le_refl _))
theorem vF(hl:PE X l tl):PI X tg l (vE X.K tl):=by
 intro jn s σ H R I h;refine thn (hl jn s σ H _ I h) fun v s1 ⟨x,H1,I1,r1,q1⟩=>?_;obtain⟨a,e,⟨xs,hq⟩,q⟩:=q1;subst e;cases r1;obtain⟨its,rv,p,hz⟩:=I1.tuple hq;refine wpAny_pyIter_tuple (show s1.heap.IsTuple a its.toArray from p) ?_;refine⟨s1.heap.objs.size,[s1.heap.objs.size],_,_,H1,rfl,I1.kept (t':=s1.toks) fun b o e=>Ds _ e,qE a _,⟨_,KU _ rfl,rfl,rfl⟩,fun b hb=>?_,q⟩;have e:b=s1.heap.objs.size:=by simpa using hb
 subst e;exact I1.oW (Nat.le_refl _) (I1.hok.fresh (Nat.le_refl _))
theorem oZ{R:It->Hp->Prop}{E:Value->Shared->Prop}{lo hi:Int}{t u v:Tok}{tk:Nat}(I:Inv X jn σ H s)(h1:-(2 ^ 62)<=lo)(h2:lo<2 ^ 62)(h3:-(2 ^ 62)<=hi)(h4:hi<2 ^ 62)
  (q:R (Itr lo (hi-lo).toNat) H):wpAny (model X.prog X.w) X.A (pyIter (.ref s.heap.objs.size)) (PIE X jn σ tg R) E { s with heap:=s.heap.push { cls:=.type "range",data:=.fields #[.int lo t,.int hi u,.int 1 v] },toks:=tk }:=by
 refine wpAny_pyIter_range (IsRange.new ..) (small_one h1 h2 h3 h4) ?_;have I1:Inv X jn σ H { s with heap:=s.heap.push { cls:=.type "range",data:=.fields #[.int lo t,.int hi u,.int 1 v] },toks:=tk }:=I.kept fun b o e=>Ds _ e;refine ⟨(s.heap.push { cls:=.type "range",data:=.fields #[.int lo t,.int hi u,.int 1 v] }).objs.size,[(s.heap.push { cls:=.type "range",data:=.fields #[.int lo t,.int hi u,.int 1 v] }).objs.size],_,_,H,rfl,
  I1.kept (t':=tk) fun b o e=>Ds _ e,qF _ lo (hi-lo).toNat,?_,fun b hb=>?_,q⟩
 ·have e1:lo+((0:Nat):Int)*1=lo:=by simp
  have e2:(((hi-lo).toNat:Nat):Int)-((0:Nat):Int)=L4 lo hi 1:=by rw[rangeSize_one];split<;>lia
  show IsRangeIter _ _ (lo+((0:Nat):Int)*1) ((((hi-lo).toNat:Nat):Int)-((0:Nat):Int)) 1;rw[e1,e2];exact KU _ rfl
 ·have e:b=(s.heap.push { cls:=.type "range",data:=.fields #[.int lo t,.int hi u,.int 1 v] }).objs.size:=by simpa using hb
  subst e;exact I1.oW (Nat.le_refl _) (I1.hok.fresh (Nat.le_refl _))
def vG(ta:TA):TI:=fun σ H R=>ta σ H fun vs H1=>∃j:Int,vs=[.int j]/\-(2 ^ 62)<=j/\j<2 ^ 62/\R (Itr 0 j.toNat) H1
def BL(ta:TA):TI:=fun σ H R=>ta σ H fun vs H1=>∃i j:Int,vs=[.int i,.int j]/\(-(2 ^ 62)<=i/\i<2 ^ 62/\-(2 ^ 62)<=j/\j<2 ^ 62)/\R (Itr i (j-i).toNat) H1
theorem lJ{a:Expr}{p pos:Pos}(hg:Gl X "range")(hm:X.mg "range" = none)(ha:PA X [a] ta)(hs:starEach [a] X.env=[(false,eval a X.env)]:=by rfl):PI X tg (.Call (.Name "range" p) [a] [] pos) (vG ta):=by
 intro jn s σ H R I h;refine Call_ (cD I hg hm boot_range (K6 (thn (ha pos jn s σ H _ I h) fun us s1 ⟨vs,H1,I1,r1,q1⟩=>?_) hs rfl));obtain⟨j,e,q1,q2,q⟩:=q1;subst e;cases r1 with
 |cons r rr=>cases rr;obtain⟨t,rfl⟩:=r;exact call_range_1 (oZ I1 (by lia) (by lia) q1 q2 (by simpa using q))
theorem ue{a b:Expr}{p pos:Pos}(hg:Gl X "range")(hm:X.mg "range" = none)(ha:PA X [a,b] ta)(hs:starEach [a,b] X.env=[(false,eval a X.env),(false,eval b X.env)]:=by rfl)(hs2:starEach [b] X.env=[(false,eval b X.env)]:=by rfl) :
  PI X tg (.Call (.Name "range" p) [a,b] [] pos) (BL ta):=by
 intro jn s σ H R I h;refine Call_ (cD I hg hm boot_range (K6 (thn (ha pos jn s σ H _ I h) fun us s1 ⟨vs,H1,I1,r1,q1⟩=>?_) (by rw[hs,hs2]) (by rw[hs2];rfl)));obtain⟨i,j,e,⟨q1,q2,q3,q4⟩,q⟩:=q1;subst e;cases r1 with
 |cons r rr=>
  cases rr with
  |cons r' rr=>cases rr;obtain⟨t,rfl⟩:=r;obtain⟨t',rfl⟩:=r';exact call_range_2 (oZ I1 q1 q2 q3 q4 q)
def Du(wi:TI)(g:TG)(tb:TS):TS:=fun D σ H=>wi σ H fun J H1=>∃W:Nat->Nat->St->Hp->Prop,(∃m,W 0 m σ H1)/\∀i m σ H,W i m σ H ->
 (J.stop i H/\D.nx σ H)\/(J.go i H/\∃N:St->Hp->Prop,(∀σ' H',N σ' H'->∃m',m'<m/\W (i+1) m' σ' H')/\∀x H',J.yld i H x H'->g x σ H' fun σ2 H2=>tb { D with nx:=N,ct:=N,bk:=D.nx } σ2 H2)
noncomputable def jL(fp:List Addr)(h:Heap):List (Addr×Obj):=fp.filterMap fun b=>(h.get? b).map fun o=>(b,o)
theorem dW{b:Addr}{o:Obj}(hb:b∈fp)(e:h.get? b=some o):(b,o)∈jL fp h:=List.mem_filterMap.mpr ⟨b,hb,by rw[e];rfl⟩
theorem uf{p:Addr×Obj}(hp:p∈jL fp h):p.1∈fp/\h.get? p.1=some p.2:=by
 obtain⟨b,hb,e⟩:=List.mem_filterMap.mp hp;cases q:h.get? b with
 |none=>rw[q]at e;cases e
 |some o=>rw[q]at e;have e':(b,o)=p:=Option.some.inj e;subst e';exact⟨hb,q⟩
theorem Inv.pinned(I:Inv X jn σ H s)(hf:∀b∈fp,jK X jn H b)(ho:∀b∈fp,∃o,s.heap.get? b=some o/\∀v,o.data≠.cell v):Inv X (jn++jL fp s.heap) σ H s:=
 I.jt fun p hp=>(K3.mp hp).elim (fun z=>I.pin p (KQ _ z)) fun z=>by obtain⟨hb,e⟩:=uf z;obtain⟨f0,f1,f2,_⟩:=hf p.1 hb;obtain⟨o,e',d⟩:=ho p.1 hb;rw[e]at e';cases e';exact⟨e,f0,f1,f2,d⟩
theorem Inv.gP{jn pl:List (Addr×Obj)}(I:Inv X (jn++pl) σ H s):Inv X jn σ H s:=I.jt fun p hp=>I.pin p (KQ _ (Lv _ hp))
theorem vH{iter:Expr}{body:List Stmt}{wi:TI}{g:TG}{tb:TS}{pos:Pos}(hp:PassesOwn (model X.prog X.w) X.A X.env X.xe)(hc:X.calm=true)(hi:PI X tg iter wi)(hg:PG X tg g)(hb:PSs X body tb)
  (hs:∀x,foldedSetIterable iter X.env x=pure x:=by intro _;rfl):PS X (.For tg iter body [] pos) (Du wi g tb):=by
 intro jn s σ H D I h;refine wpAny_For (thn (hi jn s σ H _ I h) fun v s1 h1=>thn h1 fun itv s2 h2=>?_) hs;obtain⟨it,fp,tn,J,H2,e,I2,T,st2,f2,W,⟨m0,w0⟩,turn⟩:=h2;subst e;have stat:∀{H':Hp},(∀b∈fp,H' b=none)->∀b∈fp,jK X jn H' b:=fun hn b hb=>⟨hn b hb,(f2 b hb).2⟩;refine codeAny_forLoop_any (fun n s'=>∃i σ' H',Inv X jn σ' H' s'/\tn i s'.heap/\(∀b∈fp,H' b=none)/\W i n σ' H') ?_ m0 ⟨0,σ,H2,I2,st2,fun b hb=>(f2 b hb).1,w0⟩;rintro n s3 ⟨i,σ3,H3,I3,st3,fr3,w3⟩;rcases turn i n σ3 H3 w3 with⟨stop,qn⟩ | ⟨go,N,hN,step⟩
 ·refine wpAny_passesOwn hp (thn (T.done X rfl rfl rfl hc i jn s3 σ3 H3 X.xe I3 (stat fr3) st3 stop) fun r s4 ⟨hr,I4⟩=>?_);subst hr;exact wpAny_execs_nil ⟨σ3,H3,I4,qn⟩
 ·refine wpAny_passesOwn hp (thn (T.item X rfl rfl rfl hc i jn s3 σ3 H3 X.xe I3 (stat fr3) st3 go) fun r s4 ⟨u,hr,h4⟩=>?_);subst hr;refine wpAny_passesOwn hp (thn h4 fun _ s5 ⟨x,H5,I5,r5,y5,st5,fr5⟩=>?_);have I5':=I5.pinned (stat fr5) (T.obj _ _ st5);refine wpAny_passesOwn hp (thn (hg _ s5 σ3 H5 x u _ I5' r5 (step x H5 y5)) fun _ s6 ⟨σ6,H6,I6,q6⟩=>?_);refine wpAny_passesOwn hp (thn (hb _ s6 σ6 H6 _ I6 q6) fun f s7 q7=>?_);have again:∀{σ7:St} {H7:Hp},Inv X (jn++jL fp s5.heap) σ7 H7 s7->N σ7 H7->∃m,m<n/\∃i σ' H',Inv X jn σ' H' s7/\tn i s7.heap/\(∀b∈fp,H' b=none)/\W i m σ' H':=fun {σ7 H7} I7 n7=>by
   obtain⟨m',hm,w7⟩:=hN σ7 H7 n7;refine⟨m',hm,i+1,σ7,H7,I7.gP,T.keep _ _ _ st5 fun b hb o e=>(I7.pin (b,o) (KQ _ (KQ _ (dW hb e)))).1,fun b hb=>?_,w7⟩;obtain⟨o,e,d⟩:=T.obj _ _ st5 b hb;exact(I7.pin (b,o) (KQ _ (KQ _ (dW hb e)))).2.1
  cases f with
  |next=>obtain⟨σ7,H7,I7,n7⟩:=q7;exact again I7 n7
  |cont=>obtain⟨σ7,H7,I7,n7⟩:=q7;exact again I7 n7
  |brk=>obtain⟨σ7,H7,I7,q7⟩:=q7;exact⟨σ7,H7,I7.gP,q7⟩
  |ret v=>obtain⟨x7,σ7,H7,I7,r7,q7⟩:=q7;exact⟨x7,σ7,H7,I7.gP,r7,q7⟩
end
end
noncomputable abbrev R2:=V->V->Hp->VK->Prop
def OpR(X:Cx)(f:Value->Value->Sem Value)(r:R2):Prop:=
 ∀(jn:List (Addr×Obj)) (s:Shared) (σ:St) (H:Hp) (x y:V) (v u:Value) (Q:VK),Inv X jn σ H s->RelV x v->RelV y u->r x y H Q ->
  wpAny (model X.prog X.w) X.A (f v u) (EP X jn σ Q) X.xe s
def UnR(X:Cx)(f:Value->Sem Value)(r:V->Hp->VK->Prop):Prop:=
 ∀(jn:List (Addr×Obj)) (s:Shared) (σ:St) (H:Hp) (x:V) (v:Value) (Q:VK),Inv X jn σ H s->RelV x v->r x H Q ->
  wpAny (model X.prog X.w) X.A (f v) (EP X jn σ Q) X.xe s
def dM(X:Cx)(f:Value)(r:List V->Hp->VK->Prop):Prop:=
 ∀(jn:List (Addr×Obj)) (s:Shared) (σ:St) (H:Hp) (xs:List V) (us:List Value) (Q:VK),Inv X jn σ H s->Vals xs us->r xs H Q ->
  wpAny (model X.prog X.w) X.A (call f us) (EP X jn σ Q) X.xe s
def tOp(r:R2)(ta tb:TE):TE:=fun σ H Q=>ta σ H fun x H1=>tb σ H1 fun y H2=>r x y H2 Q
def tUn(r:V->Hp->VK->Prop)(ta:TE):TE:=fun σ H Q=>ta σ H fun x H1=>r x H1 Q
def rI(C:Int->Int->Prop)(g:Int->Int->V):R2:=fun x y H Q=>∃i j,x=.int i/\y=.int j/\C i j/\Q (g i j) H
def rI0(g:Int->Int->V):R2:=fun x y H Q=>∃i j,x=.int i/\y=.int j/\Q (g i j) H
def rU(g:Int->V):V->Hp->VK->Prop:=fun x H Q=>∃i,x=.int i/\Q (g i) H
section
variable{X:Cx}{a b c:Expr}{ta tb tc:TE}{pos:Pos}
theorem Dv(ha:PE X a ta)(hb:PE X b tb){jn:List (Addr×Obj)}{s:Shared}{σ:St}{H:Hp}{R:V->V->Hp->Prop}(I:Inv X jn σ H s)
  (h:ta σ H fun x H1=>tb σ H1 fun y H2=>R x y H2) {Q:Value->Shared->Prop} {f:Value->Value->Sem Value}
  (hf:∀v u s2 x y H2,Inv X jn σ H2 s2->RelV x v->RelV y u->R x y H2->wpAny (model X.prog X.w) X.A (f v u) Q X.xe s2) :
  wpAny (model X.prog X.w) X.A (eval a X.env) (fun v s₁=>wpAny (model X.prog X.w) X.A (eval b X.env) (fun u s₂=>wpAny (model X.prog X.w) X.A (f v u) Q X.xe s₂) X.xe s₁) X.xe s:=by
 refine thn (ha jn s σ H _ I h) fun v s1 ⟨x,H1,I1,r1,q1⟩=>?_;refine thn (hb jn s1 σ H1 _ I1 q1) fun u s2 ⟨y,H2,I2,r2,q2⟩=>?_;exact hf v u s2 x y H2 I2 r1 r2 q2
theorem Gz{op:Operator}{r:R2}(ho:OpR X (binaryOp op) r)(ha:PE X a ta)(hb:PE X b tb):PE X (.BinOp a op b pos) (tOp r ta tb):=by intro jn s σ H Q I h;exact wpAny_BinOp (Dv ha hb I h fun v u s2 x y H2 I2 rx ry q=>ho jn s2 σ H2 x y v u Q I2 rx ry q)
theorem GA{op:UnaryOp}{r:V->Hp->VK->Prop}(ho:UnR X (unaryOp op) r)(ha:PE X a ta):PE X (.UnaryOp op a pos) (tUn r ta):=by intro jn s σ H Q I h;exact UnaryOp_ (thn (ha jn s σ H _ I h) fun v s1 ⟨x,H1,I1,r1,q1⟩=>ho jn s1 σ H1 x v Q I1 r1 q1)
theorem opI{f:Value->Value->Sem Value}{C:Int->Int->Prop}{g:Int->Int->Int}
  (rule:∀(i j:Int) (t u:Tok) (s:Shared) (Q:Value->Shared->Prop) (E:Value->Shared->Prop),C i j->Q (.int (g i j) s.toks) { s with toks:=s.toks+1 }->wpAny (model X.prog X.w) X.A (f (.int i t) (.int j u)) Q E s) :
  OpR X f (rI C fun i j=>.int (g i j)):=by
 intro jn s σ H x y v u Q I rx ry h;obtain⟨i,j,rfl,rfl,hc,q⟩:=h;obtain⟨t,rfl⟩:=rx;obtain⟨t',rfl⟩:=ry;exact rule i j t t' s _ _ hc ⟨.int (g i j),H,I.tok _,⟨_,rfl⟩,q⟩
theorem GB{f:Value->Value->Sem Value}{g:Int->Int->Int}
  (rule:∀(i j:Int) (t u:Tok) (s:Shared) (Q:Value->Shared->Prop) (E:Value->Shared->Prop),Q (.int (g i j) s.toks) { s with toks:=s.toks+1 }->wpAny (model X.prog X.w) X.A (f (.int i t) (.int j u)) Q E s) :
  OpR X f (rI0 fun i j=>.int (g i j)):=by
 intro jn s σ H x y v u Q I rx ry h;obtain⟨i,j,rfl,rfl,q⟩:=h;obtain⟨t,rfl⟩:=rx;obtain⟨t',rfl⟩:=ry;exact rule i j t t' s _ _ ⟨.int (g i j),H,I.tok _,⟨_,rfl⟩,q⟩
theorem zj{f:Value->Value->Sem Value}{g:Int->Int->Bool}
  (rule:∀(i j:Int) (t u:Tok) (s:Shared) (Q:Value->Shared->Prop) (E:Value->Shared->Prop),Q (.bool (g i j)) s->wpAny (model X.prog X.w) X.A (f (.int i t) (.int j u)) Q E s) :
  OpR X f (rI0 fun i j=>.bl (g i j)):=by
 intro jn s σ H x y v u Q I rx ry h;obtain⟨i,j,rfl,rfl,q⟩:=h;obtain⟨t,rfl⟩:=rx;obtain⟨t',rfl⟩:=ry;exact rule i j t t' s _ _ ⟨.bl (g i j),H,I,rfl,q⟩
def GC(i j:Int):Prop:=0<=j/\j<=1000000/\i.natAbs<2 ^ 64
def vJ(i j:Int):Prop:=(-(2 ^ 64)<i/\i<2 ^ 64)\/(-(2 ^ 64)<j/\j<2 ^ 64)
theorem vJ.ok{i j:Int}(h:vJ i j):IntMulOk i j:=by
 rcases h with⟨h1,h2⟩ | ⟨h1,h2⟩
 ·exact .of_left (intBits_le_64 h1 h2)
 ·exact .of_right (intBits_le_64 h1 h2)
theorem Dw:OpR X (binaryOp .Add) (rI0 fun i j=>.int (i+j)):=GB fun _ _ _ _ _ _ _ q=>add_int q
theorem Dy:OpR X (binaryOp .Sub) (rI0 fun i j=>.int (i-j)):=GB fun _ _ _ _ _ _ _ q=>sub_int q
theorem Dz:OpR X (binaryOp .Mult) (rI vJ fun i j=>.int (i*j)):=opI fun _ _ _ _ _ _ _ hc q=>mul_int q hc.ok
theorem DB:OpR X (binaryOp .Mod) (rI (fun _ j=>0<j) fun i j=>.int (i % j)):=opI fun i j _ _ _ _ _ hc q=>by have h1:(0:Int)<j:=hc;exact mod_int' (by lia) (by rw[Int.fmod_eq_emod_of_nonneg i (by lia)];exact q)
theorem DF:OpR X (binaryOp .Pow) (rI GC fun i j=>.int (i ^ j.toNat)):=opI fun _ _ _ _ _ _ _ hc q=>pow_int_small hc.1 hc.2.1 hc.2.2 q
theorem unI{f:Value->Sem Value}{g:Int->Int}
  (rule:∀(i:Int) (t:Tok) (s:Shared) (Q:Value->Shared->Prop) (E:Value->Shared->Prop),Q (.int (g i) s.toks) { s with toks:=s.toks+1 }->wpAny (model X.prog X.w) X.A (f (.int i t)) Q E s) :
  UnR X f (rU fun i=>.int (g i)):=by
 intro jn s σ H x v Q I rx h;obtain⟨i,rfl,q⟩:=h;obtain⟨t,rfl⟩:=rx;exact rule i t s _ _ ⟨.int (g i),H,I.tok _,⟨_,rfl⟩,q⟩
theorem DG:UnR X (unaryOp .USub) (rU fun i=>.int (-i)):=unI fun _ _ _ _ _ q=>neg_int q
end
section
variable{X:Cx}{a b c:Expr}{ta tb tc:TE}{pos:Pos}
theorem BN:OpR X (compareOp .Lt) (rI0 fun i j=>.bl (decide (i<j))):=zj fun _ _ _ _ _ _ _ q=>lt_int q
theorem r8:OpR X (compareOp .LtE) (rI0 fun i j=>.bl (decide (i<=j))):=zj fun _ _ _ _ _ _ _ q=>le_int q
theorem BO:OpR X (compareOp .Gt) (rI0 fun i j=>.bl (decide (j<i))):=zj fun _ _ _ _ _ _ _ q=>gt_int q
theorem GD:OpR X (compareOp .GtE) (rI0 fun i j=>.bl (decide (j<=i))):=zj fun _ _ _ _ _ _ _ q=>ge_int q
theorem OpR.or{f:Value->Value->Sem Value}{r r':R2}(h:OpR X f r)(h':OpR X f r'):OpR X f (fun x y H Q=>r x y H Q\/r' x y H Q):=by
 intro jn s σ H x y v u Q I rx ry q;rcases q with q | q
 ·exact h jn s σ H x y v u Q I rx ry q
 ·exact h' jn s σ H x y v u Q I rx ry q
theorem dH(b:Expr){op:CmpOp}(h:op≠.In:=by decide)(h2:op≠.NotIn:=by decide):behindInMarks op b=false:=by
 have e1:(op == CmpOp.In)=false:=by cases op<;>first | rfl | exact absurd rfl h
 have e2:(op == CmpOp.NotIn)=false:=by cases op<;>first | rfl | exact absurd rfl h2
 cases b<;>simp[behindInMarks,e1,e2]
theorem zk{op:CmpOp}{r:R2}(ho:OpR X (compareOp op) r)(ha:PE X a ta)(hb:PE X b tb)(hm:behindInMarks op b=false):PE X (.Compare a [op] [b] pos) (tOp r ta tb):=by intro jn s σ H Q I h;exact wpAny_Compare1 (Dv ha hb I h fun v u s2 x y H2 I2 rx ry q=>ho jn s2 σ H2 x y v u Q I2 rx ry q) hm
def BP(t:TE):TT:=fun σ H Q=>t σ H fun x H'=>∃k,x=.bl k/\Q k H'
theorem zl{op:CmpOp}{r:R2}(ho:OpR X (compareOp op) r)(ha:PE X a ta)(hb:PE X b tb)(hm:behindInMarks op b=false):PT X (.Compare a [op] [b] pos) (BP (tOp r ta tb)):=by
 intro jn s σ H Q I h;refine wpAny_isTrue_Compare1 (thn (ha jn s σ H _ I h) fun v s1 ⟨x,H1,I1,r1,q1⟩=>thn (hb jn s1 σ H1 _ I1 q1) fun u s2 ⟨y,H2,I2,r2,q2⟩=>thn (ho jn s2 σ H2 x y v u _ I2 r1 r2 q2) fun c s3 ⟨z,H3,I3,r3,k,e,q3⟩=>?_) hm
 subst e;cases r3;exact wpAny_truthy_bool ⟨H3,I3,q3⟩
def vK(r r':R2)(ta tb tc:TE):TE:=fun σ H Q=>ta σ H fun x H1=>tb σ H1 fun y H2=>r x y H2 fun z H3=>∃k,z=.bl k /\
 (if k=true then tc σ H3 fun w' H4=>r' y w' H4 Q else Q (.bl false) H3)
theorem vL{op op':CmpOp}{r r':R2}(ho:OpR X (compareOp op) r)(ho':OpR X (compareOp op') r')(ha:PE X a ta)(hb:PE X b tb)(hc:PE X c tc)
  (hm:lastMarks [op,op'] [b,c]=false:=by with_unfolding_all rfl):PE X (.Compare a [op,op'] [b,c] pos) (vK r r' ta tb tc):=by
 intro jn s σ H Q I h;refine Compare_chain (thn (ha jn s σ H _ I h) fun v s1 ⟨x,H1,I1,r1,q1⟩=>chain_link (thn (hb jn s1 σ H1 _ I1 q1) fun u s2 ⟨y,H2,I2,r2,q2⟩=>thn (ho jn s2 σ H2 x y v u _ I2 r1 r2 q2) fun d s3 ⟨z,H3,I3,r3,k,e,q3⟩=>?_)) hm
 subst e;cases r3;refine wpAny_truthy_bool ?_;cases k with
 |false=>exact ite_ff ⟨.bl false,H3,I3,rfl,q3⟩
 |true=>exact ite_tt (chain_last (thn (hc jn s3 σ H3 _ I3 q3) fun w' s4 ⟨z',H4,I4,r4,q4⟩=>ho' jn s4 σ H4 y z' u w' Q I4 r2 r4 q4))
theorem nh:(sizeLine:Nat)<2 ^ 63:=by rw[sizeLine_eq];decide
theorem vals1{x:V}{us:List Value}(r:Vals [x] us):∃u,us=[u]/\RelV x u:=by
 cases r with
 |cons r1 r2=>cases r2;exact⟨_,rfl,r1⟩
theorem vals2{x y:V}{us:List Value}(r:Vals [x,y] us):∃u w',us=[u,w']/\RelV x u/\RelV y w':=by
 cases r with
 |cons r1 r2=>
  cases r2 with
  |cons r3 r4=>cases r4;exact⟨_,_,rfl,r1,r3⟩
theorem ug(hc:X.calm=true):dM X (.builtin "max") (fun xs H Q=>∃i j,xs=[.int i,.int j]/\Q (.int (if j>i then j else i)) H):=by
 intro jn s σ H xs us Q I r h;obtain⟨i,j,rfl,q⟩:=h;obtain⟨u,w',rfl,⟨t,rfl⟩,⟨t',rfl⟩⟩:=vals2 r;refine max_two_ints (I.ok.hd hc) fun h' tk k=>⟨_,H,I.kept k,?_,q⟩;by_cases hj:j>i
 ·rw[if_pos hj,if_pos hj];exact⟨_,rfl⟩
 ·rw[if_neg hj,if_neg hj];exact⟨_,rfl⟩
theorem uh(hc:X.calm=true):dM X (.builtin "min") (fun xs H Q=>∃i j,xs=[.int i,.int j]/\Q (.int (if j<i then j else i)) H):=by
 intro jn s σ H xs us Q I r h;obtain⟨i,j,rfl,q⟩:=h;obtain⟨u,w',rfl,⟨t,rfl⟩,⟨t',rfl⟩⟩:=vals2 r;refine min_two_ints (I.ok.hd hc) fun h' tk k=>⟨_,H,I.kept k,?_,q⟩;by_cases hj:j<i
 ·rw[if_pos hj,if_pos hj];exact⟨_,rfl⟩
 ·rw[if_neg hj,if_neg hj];exact⟨_,rfl⟩
theorem um:dM X (.type "int") (fun xs H Q=>(∃i,xs=[.int i]/\Q (.int i) H)\/∃k,xs=[.bl k]/\Q (.int (if k then 1 else 0)) H):=by
 intro jn s σ H xs us Q I r h;rcases h with⟨i,rfl,q⟩ | ⟨k,rfl,q⟩
 ·obtain⟨u,rfl,t,rfl⟩:=vals1 r;exact call_int_int ⟨.int i,H,I,⟨_,rfl⟩,q⟩
 ·obtain⟨u,rfl,r1⟩:=vals1 r;cases r1;exact call_int_bool ⟨.int (if k then 1 else 0),H,I.tok _,⟨_,rfl⟩,q⟩
end
section
variable{mA:Str->Option Value}{h:Heap}
structure DH(h:Heap)(x dx C:Addr)(mA:Str->Option Value):Prop where
 obj:h.get? x=some (NJ C dx)
 ns:h.Ns1 dx mA
 ne:dx≠x
theorem uo{dx:Addr}(n:h.Ns1 dx mA):∃od,h.get? dx=some od/\∀name,NR name od=some (mA name):=by
 obtain⟨o,es,ep,ho,hd,hk,_,hm⟩:=n;refine⟨o,ho,fun name=>?_⟩;have e:=hm name;unfold nsFind findBy at e;rw[<- Array.find?_toList]at e;unfold NR;rw[hd];dsimp only;split
 ·rename_i y q;rw[q]at e;exact congrArg some e
 ·rename_i q;rw[q]at e;have a:es.toList.any (·.refKey)=false:=by
   rw[List.any_eq_false];intro y hy;obtain⟨z,t,hkey⟩:=hk y (Array.mem_toList_iff.mp hy);simp[DictEntry.refKey,hkey]
  have a':¬es.toList.any (·.refKey)=true:=by rw[a];exact K7
  rw[if_neg a'];exact congrArg some e
theorem DH.look{x dx C:Addr}(I:DH h x dx C mA):∃od,PySem.W.InstAt h x (NJ C dx) C (some od)/\∀name,NR name od=some (mA name):=
 let ⟨od,ho,hl⟩:=uo I.ns
 ⟨od,⟨I.obj,rfl,rfl,ho⟩,hl⟩
end
section
variable{P:Program}{w:World}{H H':Hp}{h h':Heap}{a C dx:Addr}{fs fs':List (Str×V)}
theorem zm(hok:HOk P w H h)(e:H a=some (.ins C dx fs)):∃mA,DH h a dx C mA/\(∀f,Dc (fs.lookup f) (mA f))/\PySem.Within mA (fs.map (·.1))/\fs.length<=1000/\H dx=some (.own a):=by
 obtain⟨d,z,ne,ob,mA,n,r,q⟩:=(show bq P w H h a (.ins C dx fs) from hok a _ e)
 exact⟨mA,⟨ob,n,ne⟩,r,q,z,d⟩
end
structure Cls(K:gb)(C:Addr):Prop where
 pg:PySem.W.plainGet K C Str.empty=true
 hd:PySem.W.hasDictIn K C=true
 po:PySem.W.plainOver K C=true
 sa:PySem.W.findIn K (.ref C) "__setattr__" = some (some (.builtin "object.__setattr__"))
theorem Cls.get{K:gb}{C:Addr}(c:Cls K C)(f:Str):PySem.W.plainGet K C f=true:=c.pg
section
variable{X:Cx}{jn:List (Addr×Obj)}{σ:St}{H:Hp}{s:Shared}{A:Around}{E:Value->Shared->Prop}{Q:Value->Shared->Prop}{c:Value}{b:Bool}
inductive gQ(K:gb)(H:Hp):V->Value->Prop where
 |non:gQ K H .non (.type "NoneType")
 |bl (x:Bool):gQ K H (.bl x) (.type "bool")
 |int (i:Int):gQ K H (.int i) (.type "int")
 |str (x:Str):gQ K H (.str x) (.type "str")
 |flt (x:UInt64):gQ K H (.flt x) (.type "float")
 |lst {a:Addr} {xs:List V} (e:H a=some (.lst xs)):gQ K H (.ref a) (.type "list")
 |frz {a:Addr} {o:Obj} {xs:List V} (e:H a=some (.frz o (.lst xs))):gQ K H (.ref a) (.type "list")
 |tup {a:Addr} {xs:List V} (e:H a=some (.tup xs)):gQ K H (.ref a) (.type "tuple")
 |dK {a:Addr} {kvs:List (Key×V)} (e:H a=some (.dK kvs)):gQ K H (.ref a) (.type "dict")
 |dT {a:Addr} {kvs:List (List Key×V)} {ts:List Addr} (e:H a=some (.dT kvs ts)):gQ K H (.ref a) (.type "dict")
 |ins {a C dx:Addr} {fs:List (Str×V)} (e:H a=some (.ins C dx fs)) (cl:Cls K C) (ha:PySem.W.findIn K (.ref C) "__class__" = some (some (.builtin "object.__class__")))
   (hn:PySem.W.specialIn K (.builtin "object.__class__") "__get__" = some (some (.builtin "getset_descriptor.__get__"))) (htk:PySem.W.takesIn K (.builtin "object.__class__")=some true)
   (hm:PySem.W.mroIn K C (.type "object")=some true):gQ K H (.ref a) (.ref C)
theorem uq{x:V}{u t:Value}(I:Inv X jn σ H s)(rx:RelV x u)(ty:gQ X.K H x t)(e:NS X.K t c=some b)(h:∀tk,Q (.bool b) { s with toks:=tk }) :
  wpAny (model X.prog X.w) A (call (.builtin "isinstance") [u,c]) Q E s:=by
 cases ty with
 |non=>cases (show u=Value.none from rx);exact LA PySem.W.kitx_none I.kIn Nz e (fun z=>nomatch z) h
 |bl y=>cases (show u=N3 y from rx);exact LA PySem.W.kitx_bool I.kIn Nz e (fun z=>nomatch z) h
 |int i=>obtain⟨t,q⟩:=(show ∃t,u=Value.int i t from rx);cases q;exact LA PySem.W.kitx_int I.kIn Nz e (fun z=>nomatch z) h
 |str y=>obtain⟨t,q⟩:=(show ∃t,u=N6 y t from rx);cases q;exact LA PySem.W.kitx_str I.kIn Nz e (fun z=>nomatch z) h
 |flt y=>obtain⟨t,q⟩:=(show ∃t,u=Value.float y t from rx);cases q;exact LA PySem.W.kitx_float I.kIn Nz e (fun z=>nomatch z) h
 |@lst a xs ea=>
  cases (show u=LD a from rx);obtain⟨_,_,n,_,h1⟩:=(show bq X.prog X.w H s.heap a (.lst xs) from I.hok a _ ea)
  exact LA PySem.W.kitx_list I.kIn ⟨_,h1,rfl⟩ e (fun z=>nomatch z) h
 |@frz a ob xs ea=>
  cases (show u=LD a from rx);obtain⟨_,_,_,n,_,h1⟩:=(show bq X.prog X.w H s.heap a (.frz ob (.lst xs)) from I.hok a _ ea)
  exact LA PySem.W.kitx_list I.kIn ⟨_,h1,rfl⟩ e (fun z=>nomatch z) h
 |@tup a xs ea=>
  cases (show u=LD a from rx);obtain⟨_,_,_,p⟩:=(show bq X.prog X.w H s.heap a (.tup xs) from I.hok a _ ea)
  obtain⟨o,h1,h2,_⟩:=p;exact LA PySem.W.kitx_tuple I.kIn ⟨o,h1,h2⟩ e (fun z=>nomatch z) h
 |@dK a kvs ea=>
  cases (show u=LD a from rx);obtain⟨_,_,vs,_,p⟩:=(show bq X.prog X.w H s.heap a (.dK kvs) from I.hok a _ ea)
  obtain⟨o,es,ep,h1,h2,_⟩:=p;exact LA PySem.W.kitx_dict I.kIn ⟨o,h1,h2.1⟩ e (fun z=>nomatch z) h
 |@dT a kvs ts ea=>
  cases (show u=LD a from rx);obtain⟨_,_,xs,_,o,es,ep,h1,h2,_⟩:=(show bq X.prog X.w H s.heap a (.dT kvs ts) from I.hok a _ ea)
  exact LA PySem.W.kitx_dict I.kIn ⟨o,h1,h2.1⟩ e (fun z=>nomatch z) h
 |@ins a C dx fs ea cl ha hn htk hm=>cases (show u=LD a from rx);obtain⟨mA,O,_⟩:=zm I.hok ea;obtain⟨od,J,_⟩:=O.look;exact LA (PySem.W.kitx_own (cl.get _) cl.hd ha hn htk hm) I.kIn J e (fun z=>nomatch z) h
end
section
variable{A:Around}{k:Nat}
structure aV(k:Nat)(A:Around):Prop where
 hd:A.handled=none
 dp:A.depth+3*k+5<recursionLimit
 un:A.units+16*k+200<cLine
 gd:A.guards=some []
theorem aV.mono{j k:Nat}(r:aV k A)(h:j<=k):aV j A:=⟨r.hd,by have:=r.dp;lia,by have:=r.un;lia,r.gd⟩
theorem aV.deeper(r:aV (k+1) A)(env:Env):aV k (A.deeper env):=
 ⟨r.hd,by have:=r.dp;show A.depth+1+3*k+5<_;lia,by have:=r.un;show A.units+3+16*k+200<_;lia,r.gd⟩
theorem aV.in1(r:aV (k+1) A):aV k A.in1:=
 ⟨r.hd,by have:=r.dp;show A.depth+3*k+5<_;lia,by have:=r.un;show A.units+1+16*k+200<_;lia,r.gd⟩
theorem aV.depth(r:aV k A):A.depth<recursionLimit:=by have:=r.dp;lia
theorem aV.units(r:aV k A):A.units+64<cLine:=by have:=r.un;lia
theorem aV.DJ(r:aV k A):A.units<cLine:=by have:=r.un;lia
def ur:TA:=fun _ H Q=>Q [] H
def jM(ta:TE)(tr:TA):TA:=fun σ H Q=>ta σ H fun x H1=>tr σ H1 fun xs H2=>Q (x::xs) H2
end
section
variable{X:Cx}{e:Expr}{es:List Expr}{te:TE}{t:TA}{pos:Pos}
theorem ni:PA X [] ur:=fun _ _ _ _ H Q I h=>Mt ⟨[],H,I,.nil,h⟩
theorem gR(ha:PE X e te)(hr:PA X es t)(hs:starEach (e::es) X.env=(false,eval e X.env)::starEach es X.env:=by rfl):PA X (e::es) (jM te t):=by intro pos jn s σ H Q I h;rw[hs];show wpAny _ _ (spliced ((false,eval e X.env)::backTo pos (starEach es X.env))) _ _ s;refine Calls.spliced_cons (thn (ha jn s σ H _ I h) fun u s1 ⟨x,H1,I1,r1,q1⟩=>?_);exact thn (hr pos jn s1 σ H1 _ I1 q1) fun us s2 ⟨xs,H2,I2,r2,q2⟩=>⟨x::xs,H2,I2,.cons r1 r2,q2⟩
def DK(t:TA):TE:=fun σ H Q=>t σ H fun xs H1=>xs.length<=sizeLine/\∀p,H1 p=none->Q (.ref p) (upd H1 p (.tup xs))
def GF(t:TA):TE:=fun σ H Q=>t σ H fun xs H1=>xs.length<=sizeLine/\∀p,H1 p=none->Q (.ref p) (upd H1 p (.lst xs))
theorem vM{x1}(h:PA X es t):PE X (.Tuple es x1 pos) (DK t):=by intro jn s σ H Q I hq;refine wpAny_Tuple_spliced (thn (h pos jn s σ H _ I hq) fun us s1 ⟨xs,H1,I1,r,z,q⟩=>⟨by rw[<- r.length];exact z,?_⟩);have hf:H1 s1.heap.objs.size=none:=I1.hok.fresh (Nat.le_refl _);refine⟨.ref s1.heap.objs.size,upd H1 s1.heap.objs.size (.tup xs),I1.laid (t':=s1.toks) (fun b u e=>Ds _ e) (Nat.le_refl _) ?_,rfl,q _ hf⟩;exact⟨z,us,r,⟨_,KU _ rfl,rfl,_,rfl⟩⟩
theorem DL(h:PA X es t):PE X (.List es pos) (GF t):=by intro jn s σ H Q I hq;refine wpAny_List_spliced (thn (h pos jn s σ H _ I hq) fun us s1 ⟨xs,H1,I1,r,z,q⟩=>⟨by rw[<- r.length];exact z,?_⟩);have hf:H1 s1.heap.objs.size=none:=I1.hok.fresh (Nat.le_refl _);refine⟨.ref s1.heap.objs.size,upd H1 s1.heap.objs.size (.lst xs),I1.laid (t':=s1.toks) (fun b u e=>Ds _ e) (Nat.le_refl _) ?_,rfl,q _ hf⟩;exact⟨z,us,0,r,KU _ rfl⟩
end
section
variable{mg:Str->Option Value}{base:Heap}{P:Program}{w:World}
noncomputable abbrev Sp:=List V->Hp->VK->XK->Prop
noncomputable abbrev CXT:=List Env->Hp->Shared->XK->Value->Shared->Prop
structure o6(P:Program)(w:World)(K:gb)(mg:Str->Option Value)(base:Heap)(A:Around)(outer:List Env)(s:Shared)(H:Hp):Prop where
 frames:A.frames=some outer
 mod:Mod K mg base
 bs:∀b o,base.get? b=some o->s.heap.get? b=some o/\H b=none
 bsz:base.objs.size<=s.heap.objs.size
 jh:s.heap.FunFrames base outer
 frf:∀b∈frs outer,H b=none
 hok:HOk P w H s.heap
 bare:AllBare s.gens
def CE(outer:List Env)(P:Program)(w:World)(H:Hp)(s:Shared)(Q:VK)(u:Value)(s':Shared):Prop:=
 ∃v H',s'.os=s.os/\AllBare s'.gens/\Un (frs outer) [] H H' s.heap s'.heap/\HOk P w H' s'.heap/\RelV v u/\Q v H'
def CR(CX:CXT)(outer:List Env)(P:Program)(w:World)(H:Hp)(s:Shared)(Q:VK)(E:XK)(r:Result)(s':Shared):Prop:=
 match r with
 |.ok (.ret u)=>CE outer P w H s Q u s'
 |.ok _=>False
 |.error e=>CX outer H s E e s'
structure aO(P:Program)(w:World)(K:gb)(mg:Str->Option Value)(base:Heap)(CX:CXT)(k:Nat)(f:Addr)(fd:FuncData)(ps:List Str)(sp:Sp):Prop where
 len:∀vs H Q E,sp vs H Q E->vs.length=ps.length
 run:∀(A:Around) (outer:List Env) (s:Shared) (H:Hp) (args:Args) (us:List Value) (vs:List V) (Q:VK) (E:XK),aV k A->o6 P w K mg base A outer s H->BindsTo s fd args (ps.zip us)->Vals vs us->sp vs H Q E ->
  codeAny (model P w) A (.call (.ref f) args) (CR CX outer P w H s Q E) s
theorem aO.imp{K:gb}{CX:CXT}{k:Nat}{f:Addr}{fd:FuncData}{ps:List Str}{sp sp':Sp}(F:aO P w K mg base CX k f fd ps sp)
  (h:∀vs H Q E,sp' vs H Q E->sp vs H Q E):aO P w K mg base CX k f fd ps sp':=
 ⟨fun vs H Q E q=>F.len vs H Q E (h _ _ _ _ q),fun A outer s H args us vs Q E hr he hb hv hs=>F.run A outer s H args us vs Q E hr he hb hv (h _ _ _ _ hs)⟩
theorem o6.in1{K:gb}{A:Around}{outer:List Env}{s:Shared}{H:Hp}(e:o6 P w K mg base A outer s H) :
  o6 P w K mg base A.in1 outer s H:=⟨e.frames,e.mod,e.bs,e.bsz,e.jh,e.frf,e.hok,e.bare⟩
end
section
variable{X:Cx}{jn:List (Addr×Obj)}{σ:St}{H:Hp}{s s':Shared}
theorem Inv.DM(I:Inv X jn σ H s):o6 X.prog X.w X.K X.mg X.base X.A X.stack s H:=
 ⟨I.ok.frames,I.ok.mod,I.bs,Nat.le_trans I.ok.bsz I.sz,I.stack,I.rW,I.hok,I.bare⟩
theorem Inv.after{Q:VK}{u:Value}(I:Inv X jn σ H s)(h:CE X.stack X.prog X.w H s Q u s'):EP X jn σ Q u s':=by obtain⟨v,H',os,bare,un,hok,r,q⟩:=h;obtain⟨hh,g,d,t,os'⟩:=s';obtain rfl:os'=s.os:=os;exact⟨v,H',I.call (h':=hh) (g':=g) (d':=d) (t':=t) (ch:=[]) un hok bare (fun b z=>absurd z (by simp)),r,q⟩
end
def fZ(sp:Sp)(dvs:List V)(E:XK)(t:TA):TE:=fun σ H Q=>t σ H fun vs H1=>sp (vs++dvs) H1 Q E
def Binds(K:gb)(fd:FuncData)(ps:List Str)(ds:List Value):Prop:=
 ∀(s:Shared) (us:List Value),K.In s.heap->(us++ds).length=ps.length->BindsTo s fd ⟨us,[]⟩ (ps.zip (us++ds))
theorem Binds.all{K:gb}{fd:FuncData}{ps:List Str}(h:∀us:List Value,us.length=ps.length->bindArgs fd ⟨us,[]⟩=pure (ps.zip us)):Binds K fd ps []:=fun s us _ hl=>by rw[K4]at hl ⊢;exact .of_eq (h us hl)
def Passes(CX:CXT)(X:Cx)(E:XK):Prop:=∀(jn:List (Addr×Obj)) (σ:St) (H:Hp) (s:Shared) (e:Value) (s':Shared),Inv X jn σ H s->CX X.stack H s E e s'->X.xe e s'
section
variable{X:Cx}{CX:CXT}{k:Nat}{f C:Addr}{fd:FuncData}{ps:List Str}{sp:Sp}{dvs:List V}{ds:List Value}{E:XK}{x m:Str}{p pos J4:Pos}{e o:Expr}{es:List Expr}{ta:TE}{t:TA}
theorem DN{jn:List (Addr×Obj)}{σ:St}{H:Hp}{s:Shared}{Q:VK}{us:List Value}{vs:List V}(F:aO X.prog X.w X.K X.mg X.base CX k f fd ps sp)(hr:aV k X.A)(hb:Binds X.K fd ps ds)(hd:Vals dvs ds)(hx:Passes CX X E)
  (I:Inv X jn σ H s) (r:Vals vs us) (h:sp (vs++dvs) H Q E):wpAny (model X.prog X.w) X.A (call (.ref f) us) (EP X jn σ Q) X.xe s:=by
 have r2:Vals (vs++dvs) (us++ds):=r.append hd;have hl:(us++ds).length=ps.length:=by rw[<- r2.length];exact F.len _ _ _ _ h
 refine wpAny_call (codeAny_mono (F.run X.A X.stack s H ⟨us,[]⟩ (us++ds) (vs++dvs) Q E hr I.DM (hb s us I.kIn hl) r2 h) fun r s' hq=>?_);cases r with
 |error e=>exact hx jn σ H s e s' I hq
 |ok fl=>
  cases fl with
  |ret u=>exact I.after hq
  |next=>exact K9 hq
  |brk=>exact K9 hq
  |cont=>exact K9 hq
theorem dh(F:aO X.prog X.w X.K X.mg X.base CX k f fd ps sp)(hr:aV k X.A)(hg:Gl X x)(hm:X.mg x=some (.ref f))(hk:Le X.K (.ref f)=true)(hb:Binds X.K fd ps ds)(hd:Vals dvs ds)(hx:Passes CX X E)
  (ha:PA X (e::es) t) (FF:(x == ("__debug__" : Str))=false:=by decide) (he:starEach (e::es) X.env=(false,eval e X.env)::starEach es X.env:=by rfl) (A3:(backTo pos (starEach es X.env)).any (·.1)=false:=by rfl) :
  PE X (.Call (.Name x p) (e::es) [] pos) (fZ sp dvs E t):=by
 intro jn s σ H Q I h;refine wpAny_Call_Name_kw (m9 I hg hm ?_ FF);refine PySem.W.callWith_K (h₀:=X.base) I.ok.mod.kin hk (thn (ha pos jn s σ H _ I h) fun us s1 ⟨vs,H1,I1,r,q⟩=>⟨I1.kIn,?_⟩) he A3;exact DN F hr hb hd hx I1 r q
end
def PK(X:Cx)(kws:List Keyword)(t:TA):Prop:=
 ∀(pos:Pos) (jn:List (Addr×Obj)) (s:Shared) (σ:St) (H:Hp) (Q:List V->Hp->Prop),Inv X jn σ H s->t σ H Q->wpAny (model X.prog X.w) X.A (evalAll ((backToKw pos (keywordEach kws X.env)).map (·.2))) (AP X jn σ Q) X.xe s
section
variable{X:Cx}{CX:CXT}{k:Nat}{f C:Addr}{fd:FuncData}{ps ks:List Str}{sp:Sp}{E:XK}{x m:Str}{p pos J4 kpos:Pos}{e o:Expr}{es:List Expr}{kws:List Keyword}{te ta:TE}{t tk:TA}{nm:Option Str}
theorem DO:PK X [] ur:=fun _ _ _ _ H Q I h=>wpAny_evalAll_nil ⟨[],H,I,.nil,h⟩
theorem zo(ha:PE X e te)(hr:PK X kws t):PK X (⟨nm,e,kpos⟩::kws) (jM te t):=by intro pos jn s σ H Q I h;show wpAny _ _ (evalAll ((do let v <- eval e X.env;standAt pos;pure v)::(backToKw pos (keywordEach kws X.env)).map (·.2))) _ _ s;refine wpAny_evalAll_cons (wpAny_bind (thn (ha jn s σ H _ I h) fun u s1 ⟨x,H1,I1,r1,q1⟩=>wpAny_bind (wpAny_standAt (wpAny_pure ?_))));exact thn (hr pos jn s1 σ H1 _ I1 q1) fun us s2 ⟨xs,H2,I2,r2,q2⟩=>⟨x::xs,H2,I2,.cons r1 r2,q2⟩
structure iN(K:gb)(fd:FuncData)(ps ks:List Str)(g:List Value->List Value->List Value)(gV:List V->List V->List V):Prop where
 to:∀(s:Shared) (us ws:List Value),K.In s.heap->(g us ws).length=ps.length->BindsTo s fd ⟨us,ks.zip ws⟩ (ps.zip (g us ws))
 rel:∀{vs:List V} {us:List Value} {zs:List V} {ws:List Value},Vals vs us->Vals zs ws->Vals (gV vs zs) (g us ws)
def vN(sp:Sp)(gV:List V->List V->List V)(E:XK)(t tk:TA):TE:=fun σ H Q=>t σ H fun vs H1=>tk σ H1 fun zs H2=>sp (gV vs zs) H2 Q E
variable{g:List Value->List Value->List Value}{gV:List V->List V->List V}
theorem zq{jn:List (Addr×Obj)}{σ:St}{H:Hp}{s:Shared}{Q:VK}{us ws:List Value}{vs zs:List V}(F:aO X.prog X.w X.K X.mg X.base CX k f fd ps sp)(hr:aV k X.A)(hb:iN X.K fd ps ks g gV)(hx:Passes CX X E)
  (I:Inv X jn σ H s) (r:Vals vs us) (rz:Vals zs ws) (h:sp (gV vs zs) H Q E):wpAny (model X.prog X.w) X.A (call (.ref f) us (ks.zip ws)) (EP X jn σ Q) X.xe s:=by
 have r2:=hb.rel r rz;have hl:(g us ws).length=ps.length:=by rw[<- r2.length];exact F.len _ _ _ _ h
 refine wpAny_call (codeAny_mono (F.run X.A X.stack s H ⟨us,ks.zip ws⟩ (g us ws) (gV vs zs) Q E hr I.DM (hb.to s us ws I.kIn hl) r2 h) fun r s' hq=>?_);cases r with
 |error e=>exact hx jn σ H s e s' I hq
 |ok fl=>
  cases fl with
  |ret u=>exact I.after hq
  |next=>exact K9 hq
  |brk=>exact K9 hq
  |cont=>exact K9 hq
theorem vO(F:aO X.prog X.w X.K X.mg X.base CX k f fd ps sp)(hr:aV k X.A)(hg:Gl X x)(hm:X.mg x=some (.ref f))(hk:Le X.K (.ref f)=true)(hb:iN X.K fd ps ks g gV)(hx:Passes CX X E)
  (ha:PA X (e::es) t) (hkw:PK X kws tk) (hall:(backToKw pos (keywordEach kws X.env)).all (·.1.isSome)=true:=by rfl) (hks:(backToKw pos (keywordEach kws X.env)).filterMap (·.1)=ks:=by rfl)
  (FF:(x == ("__debug__" : Str))=false:=by decide) (he:starEach (e::es) X.env=(false,eval e X.env)::starEach es X.env:=by rfl)
  (A3:((backTo pos (starEach (e::es) X.env)).any (·.1)||(backToKw pos (keywordEach kws X.env)).any (·.1.isNone))=false:=by rfl) :
  PE X (.Call (.Name x p) (e::es) kws pos) (vN sp gV E t tk):=by
 intro jn s σ H Q I h;refine wpAny_Call_Name_kw (m9 I hg hm ?_ FF);refine PySem.W.callWith_KW (h₀:=X.base) I.ok.mod.kin hk hall (thn (ha pos jn s σ H _ I h) fun us s1 ⟨vs,H1,I1,r,q⟩=>?_) A3 he;refine thn (hkw pos jn s1 σ H1 _ I1 q) fun ws s2 ⟨zs,H2,I2,rz,q2⟩=>⟨I2.kIn,?_⟩;rw[hks];exact zq F hr hb hx I2 r rz q2
end
section
variable{x:Str}{v:Value}
structure ao(N P:List Str)(sc:Scope):Prop where
 kind:sc.kind=.function
 co:sc.isCoroutine=false
 gen:sc.isGenerator=false
 nd:N.Nodup
 pre:N.take P.length=P
 par:∀x∈P,sc.names.lookup x=some .local\/sc.names.lookup x=some .cell
 DQ:∀y∈sc.names,y.2≠.free
theorem lM{kindOf:Str->Option NameKind}:∀{binds:List (Str×Value)} {m:Str->Option Value},(∀v,(x,v)∉binds)->bindL kindOf binds m x=m x
 |[],_,_=>rfl
 |(n,v)::r,m,h=>by
  unfold bindL;rw[lM fun w hw=>h w (Kw _ hw)];split
  ·have:x≠n:=by rintro rfl;exact h v Kz
   simp[this]
  ·rfl
theorem lN{kindOf:Str->Option NameKind}:∀{binds:List (Str×Value)} {m:Str->Option Value},(∀v,(x,v)∉binds)->bindC kindOf binds m x=m x
 |[],_,_=>rfl
 |(n,v)::r,m,h=>by
  unfold bindC;rw[lN fun w hw=>h w (Kw _ hw)];split
  ·rfl
  ·have:x≠n:=by rintro rfl;exact h v Kz
   simp[this]
theorem lO{kindOf:Str->Option NameKind}:∀{P:List Str} {vs:List Value} {i:Nat} {m:Str->Option Value},P.Nodup->P[i]?=some x->vs[i]?=some v->kindOf x=some .local ->
  bindL kindOf (P.zip vs) m x=some v
 |[],_,_,_,_,h,_,_=>by simp at h
 |_::_,[],_,_,_,_,h,_=>by simp at h
 |p::P,w::vs,0,m,nd,h1,h2,hk=>by simp at h1 h2;subst h1;subst h2;show bindL kindOf ((p,w)::P.zip vs) m p=_;unfold bindL;rw[lM fun v hv=>(LI.mp nd).1 (Mb hv).1,if_pos hk];simp
 |p::P,w::vs,i+1,m,nd,h1,h2,hk=>by show bindL kindOf ((p,w)::P.zip vs) m x=_;unfold bindL;exact lO (i:=i) (LI.mp nd).2 (by simpa using h1) (by simpa using h2) hk
theorem lP{kindOf:Str->Option NameKind}:∀{P:List Str} {vs:List Value} {i:Nat} {m:Str->Option Value},P.Nodup->P[i]?=some x->vs[i]?=some v->kindOf x≠some .local ->
  bindC kindOf (P.zip vs) m x=some v
 |[],_,_,_,_,h,_,_=>by simp at h
 |_::_,[],_,_,_,_,h,_=>by simp at h
 |p::P,w::vs,0,m,nd,h1,h2,hk=>by simp at h1 h2;subst h1;subst h2;show bindC kindOf ((p,w)::P.zip vs) m p=_;unfold bindC;rw[lN fun v hv=>(LI.mp nd).1 (Mb hv).1,if_neg hk];simp
 |p::P,w::vs,i+1,m,nd,h1,h2,hk=>by show bindC kindOf ((p,w)::P.zip vs) m x=_;unfold bindC;exact lP (i:=i) (LI.mp nd).2 (by simpa using h1) (by simpa using h2) hk
noncomputable def start(N:List Str)(vs:List V):St:=vs.map some++Dk (N.length-vs.length) none
noncomputable def gS(CX:CXT)(P:Program)(w:World)(K:gb)(mg:Str->Option Value)(base:Heap)(N:List Str)(qual:Str)(scope:Scope)(f:Addr)(cd:Value)(A:Around)(outer:List Env)(s:Shared)(H:Hp)(E:XK):Cx where
 prog:=P
 w:=w
 K:=K
 mg:=mg
 base:=base
 A:=A.deeper (envOfC qual scope s.heap.objs.size f cd)
 N:=N
 s₀:=s
 H₀:=H
 env:=envOfC qual scope s.heap.objs.size f cd
 outer:=outer
 stack:=envOfC qual scope s.heap.objs.size f cd::outer
 ex:=[]
 calm:=true
 fn:=fun _=>true
 pn:=[]
 xe:=fun e s'=>wpAny (model P w) (A.deeper (envOfC qual scope s.heap.objs.size f cd)) (leaving (envOfC qual scope s.heap.objs.size f cd) e) (fun _ s''=>CX outer H s E e s'') (fun e' s''=>CX outer H s E e' s'') s'
theorem o7{sc:Scope}{n:Nat}(h:sc.names.lookup x=some .cell):∃c,(cellsFrom n sc.names []).lookup x=some c:=by have q:=MU sc.names n [] (.inl h);exact Option.isSome_iff_exists.mp q
theorem lQ{CX:CXT}{P:Program}{w:World}{K:gb}{mg:Str->Option Value}{base:Heap}{N ps:List Str}{qual:Str}{scope:Scope}{f:Addr}{cd:Value}{A:Around}{outer:List Env}{s s1:Shared}{H:Hp}{E:XK}{us:List Value}{vs:List V}
  (S:ao N ps scope) (hd:A.handled=none) (e0:o6 P w K mg base A outer s H) (hl:vs.length=ps.length) (r:Vals vs us)
  (x:InCallC s s.heap.objs.size (bindL (envOfC qual scope s.heap.objs.size f cd).kindOf (ps.zip us) fun _=>none) (cellsFrom (s.heap.objs.size+1) scope.names []) (bindC (envOfC qual scope s.heap.objs.size f cd).kindOf (ps.zip us) fun _=>none) s1) :
  Inv (gS CX P w K mg base N qual scope f cd A outer s H E) [] (start N vs) H s1:=by
 have A3:ps.length<=N.length:=by have:=congrArg List.length S.pre;rw[Lh]at this;lia
 obtain⟨h1,tk,rfl,hk⟩:=x.done;have noA:∀b:Addr,b∉(gS CX P w K mg base N qual scope f cd A outer s H E).ex:=fun b z=>absurd (show b∈([]:List Addr) from z) (by simp);refine ⟨⟨e0.mod,S.kind,rfl,rfl,Nat.le_refl _,fun y z c h1 h2=>?_,fun y hy=>?_,fun y c _ h=>?_,fun _=>hd,Around.frames_deeper e0.frames,.inr ⟨rfl,rfl⟩,fun b z=>absurd z (noA b),e0.bs,e0.bsz,fun b _ _=>noA b,fun b z=>absurd z (noA b),e0.jh,e0.frf⟩,
  rfl,e0.bare,Un.kept hk,⟨_,x.toInCall.ns,fun i y v h1 h2 h3=>?_⟩,fun y c h=>⟨_,x.cell y c h⟩,e0.hok.fresh (Nat.le_refl _),fun y c h=>?_,fun p hp=>absurd (show p∈([]:List (Addr×Obj)) from hp) (by simp),e0.hok.kept hk,?_⟩
 ·exact name_of_addr x.apart (PySem.mem_of_lookup h1) (PySem.mem_of_lookup h2)
 ·have hy:scope.names.lookup y=some .cell\/scope.names.lookup y=some .free:=hy;rcases hy with hy | hy
  ·exact o7 hy
  ·exact absurd rfl (S.DQ _ (PySem.mem_of_lookup hy))
 ·exact M5 (x.above y c (PySem.mem_of_lookup h))
 ·have hi:i<vs.length:=by
   unfold start at h2;by_cases hi:i<vs.length
   ·exact hi
   ·rw[KI (by simpa using hi)]at h2;rw[Lm]at h2;split at h2<;>cases h2
  have ha:vs[i]?=some v:=by
   unfold start at h2;rw[KH (by simpa using hi),KZ]at h2;cases e:vs[i]? with
   |none=>rw[e]at h2;cases h2
   |some a=>rw[e]at h2;cases h2;rfl
  obtain⟨u,hu,rv⟩:=r.get ha;have hp:ps[i]?=some y:=by rw[<- S.pre,L0 (by lia)];exact h1
  have ndP:ps.Nodup:=by rw[<- S.pre];exact S.nd.sublist (List.take_sublist _ _)
  refine⟨u,rv,?_⟩;rcases S.par y (M7 hp) with k | k
  ·exact .inl ⟨k,lO ndP hp hu k⟩
  ·obtain⟨c,e⟩:=o7 (n:=s.heap.objs.size+1) k;refine .inr ⟨.inl k,c,e,?_⟩;have q:=x.cell y c e;rw[lP ndP hp hu (by show scope.names.lookup y≠_;rw[k];decide)]at q;exact q
 ·exact e0.hok.fresh (M5 (x.above y c (PySem.mem_of_lookup h)))
 ·unfold start;show _=N.length;rw[KL,gp,Mc]
  lia
theorem r9{CX:CXT}{P:Program}{w:World}{K:gb}{mg:Str->Option Value}{base:Heap}{k:Nat}{f:Addr}{name qual:Str}{params:Arguments}{body:List Stmt}{scope:Scope}{dV kV doc pm cdv ct oc:Value}{an od:Option Addr}
  {osl:Array (Option Value)} {N ps:List Str} {sp:Sp} (lk:K.lookup f=some ⟨oc,od,.func (K1 name qual params body scope dV kV doc pm an cdv ct),osl⟩) (FG:Mj K cdv qual=true) (S:ao N ps scope)
  (len:∀vs H Q E,sp vs H Q E->vs.length=ps.length)
  (hbody:∀ (A:Around) (outer:List Env) (s:Shared) (H:Hp) (vs:List V) (Q:VK) (E:XK),aV k (A.deeper (envOfC qual scope s.heap.objs.size f cdv))→sp vs H Q E →
   ∃t,PSs (gS CX P w K mg base N qual scope f cdv A outer s H E) body t/\t { nx:=fun _ H'=>Q .non H',rt:=Q } (start N vs) H) :
  aO P w K mg base CX (k+1) f (K1 name qual params body scope dV kV doc pm an cdv ct) ps sp:=by
 refine⟨len,fun A outer s H args us vs Q E hr e0 hb r hsp=>?_⟩;have hl:=len _ _ _ _ hsp;have KX:K.In s.heap:=e0.mod.kin.keeps fun b o e=>(e0.bs b o e).1;have lim:s.heap.NoLimit:=e0.mod.nolimit.keeps fun b o e=>(e0.bs b o e).1;have hkind:∀y∈ps.zip us,scope.names.lookup y.1=some .local\/(scope.names.lookup y.1=some .cell/\((cellsFrom (s.heap.objs.size+1) scope.names []).lookup y.1).isSome=true):=fun⟨n,v⟩ hy=>by
  rcases S.par n (Mb hy).1 with q | q
  ·exact .inl q
  ·exact .inr ⟨q,MU _ _ _ (.inl q)⟩
 refine codeAny_call_function hr.depth (KX _ _ lk) rfl S.co S.gen rfl (PySem.W.codeRec_of KX FG) (hb _ _ _ _ ?_);refine wpAny_newFunctionEnv_cells S.kind hkind fun env he s1 x=>?_;subst he;refine⟨lim.keeps x.toInCall.keep,codeAny_func ?_⟩;obtain⟨t,ht,hq⟩:=hbody A outer s H vs Q E (hr.deeper _) hsp;have I:Inv (gS CX P w K mg base N qual scope f cdv A outer s H E) [] (start N vs) H s1:=lQ S hr.hd e0 hl r x;refine wpAny_mono (ht [] s1 (start N vs) H _ I hq) (fun fl s' hs=>?_) fun e s' hs=>hs;have Cq:∀{σ':St} {H':Hp} {v:V} {u:Value},Inv (gS CX P w K mg base N qual scope f cdv A outer s H E) [] σ' H' s'->RelV v u->Q v H'->CE outer P w H s Q u s':=
  fun {σ' H' v u} J rv q=>⟨v,H',J.os,J.bare,J.base,J.hok,rv,q⟩
 cases fl with
 |ret u=>obtain⟨v,σ',H',J,rv,q⟩:=hs;exact Cq J rv q
 |next=>obtain⟨σ',H',J,q⟩:=hs;exact Cq (v:=V.non) (u:=Value.none) J rfl q
 |brk=>obtain⟨_,_,_,q⟩:=hs;exact K9 q
 |cont=>obtain⟨_,_,_,q⟩:=hs;exact K9 q
end
section
variable{X:Cx}{x:Str}{p pos:Pos}{e:Expr}{es:List Expr}{t:TA}{id T:String}{r:List V->Hp->VK->Prop}
def tCB(r:List V->Hp->VK->Prop)(t:TA):TE:=fun σ H Q=>t σ H fun vs H1=>r vs H1 Q
theorem o8(hc:dM X (.builtin id) r)(hg:Gl X x)(hm:X.mg x=none)(hv:bootBuiltins x=some (.builtin id))(ha:PA X (e::es) t)(hn:x ≠ "__name__" := by decide)(FF:(x == ("__debug__" : Str))=false:=by decide)
  (he:starEach (e::es) X.env=(false,eval e X.env)::starEach es X.env:=by rfl) (A3:(backTo pos (starEach es X.env)).any (·.1)=false:=by rfl):PE X (.Call (.Name x p) (e::es) [] pos) (tCB r t):=by
 intro jn s σ H Q I h;refine wpAny_Call_Name_kw (cD I hg hm hv ?_ hn FF);exact PyProof.Rows.callWith_builtin1 (thn (ha pos jn s σ H _ I h) fun us s1 ⟨vs,H1,I1,r1,q1⟩=>hc jn s1 σ H1 vs us Q I1 r1 q1) he A3
theorem uu(hc:dM X (.type T) r)(hg:Gl X x)(hm:X.mg x=none)(hv:bootBuiltins x=some (.type T))(ha:PA X (e::es) t)(hn:x ≠ "__name__" := by decide)(FF:(x == ("__debug__" : Str))=false:=by decide)
  (he:starEach (e::es) X.env=(false,eval e X.env)::starEach es X.env:=by rfl) (A3:(backTo pos (starEach es X.env)).any (·.1)=false:=by rfl):PE X (.Call (.Name x p) (e::es) [] pos) (tCB r t):=by
 intro jn s σ H Q I h;refine wpAny_Call_Name_kw (cD I hg hm hv ?_ hn FF);exact K6 (thn (ha pos jn s σ H _ I h) fun us s1 ⟨vs,H1,I1,r1,q1⟩=>hc jn s1 σ H1 vs us Q I1 r1 q1) he A3
end
end L2
namespace HT
open PySem PyProof.Rows
section
variable{prog:Program}{w:World}{A:Around}{E:Value->Shared->Prop}{s:Shared}
noncomputable def sIx(n d:Nat):Option Int->Nat
 |none=>d
 |some v=>if v<0 then (v+(n:Int)).toNat else min v.toNat n
end
end HT
namespace L2
open PySem PySem.Spec PyProof.Rows
noncomputable abbrev TO:=St->Hp->(Option Int->Hp->Prop)->Prop
def PO(X:Cx)(e:Option Expr)(t:TO):Prop:=
 ∀(jn:List (Addr×Obj)) (s:Shared) (σ:St) (H:Hp) (Q:Option Int->Hp->Prop),Inv X jn σ H s->t σ H Q ->
  wpAny (model X.prog X.w) X.A (evalPart e X.env) (fun u s'=>∃o H',Inv X jn σ H' s'/\IsPart u o/\Q o H') X.xe s
def nj:TO:=fun _ H Q=>Q none H
def vP(t:TE):TO:=fun σ H Q=>t σ H fun x H1=>∃i,x=.int i/\Q (some i) H1
section
variable{X:Cx}{e:Expr}{te:TE}{lo hi:Option Expr}{tl th:TO}{pos p2:Pos}
theorem zu:PO X none nj:=by intro jn s σ H Q I h;rw[evalPart_none];exact wpAny_pure ⟨none,H,I,.none,h⟩
theorem zv(h:PE X e te):PO X (some e) (vP te):=by intro jn s σ H Q I hw;rw[evalPart_some];refine thn (h jn s σ H _ I hw) fun u s1 ⟨x,H1,I1,r1,q1⟩=>?_;obtain⟨i,rfl,q⟩:=q1;obtain⟨t,rfl⟩:=r1;exact⟨some i,H1,I1,.int i t,q⟩
def SlR(X:Cx)(r:V->Option Int->Option Int->Hp->VK->Prop):Prop:=
 ∀(jn:List (Addr×Obj)) (s:Shared) (σ:St) (H:Hp) (x:V) (v vl vu:Value) (lo hi:Option Int) (sl:Addr) (Q:VK),Inv X jn σ H s->RelV x v->s.heap.IsSliceOf sl vl vu .none->IsPart vl lo->IsPart vu hi->r x lo hi H Q ->
  ∃T id,typeLookup (.type T) "__getitem__" = pure (some (.builtin id))/\s.TypeIs v T/\wpAny (model X.prog X.w) X.A (getItem v (.ref sl)) (EP X jn σ Q) X.xe s
def tSl(r:V->Option Int->Option Int->Hp->VK->Prop)(te:TE)(tl th:TO):TE:=fun σ H Q=>te σ H fun x H1=>tl σ H1 fun l H2=>th σ H2 fun u H3=>r x l u H3 Q
theorem vQ{r:V->Option Int->Option Int->Hp->VK->Prop}(hr:SlR X r)(he:PE X e te)(hl:PO X lo tl)(hu:PO X hi th):PE X (.Subscript e (.Slice lo hi none p2) pos) (tSl r te tl th):=by intro jn s σ H Q I h;refine Subscript_ (thn (he jn s σ H _ I h) fun v s1 ⟨x,H1,I1,r1,q1⟩=>?_);refine wpAny_Slice (thn (hl jn s1 σ H1 _ I1 q1) fun vl s2 ⟨l,H2,I2,pl,q2⟩=>thn (hu jn s2 σ H2 _ I2 q2) fun vu s3 ⟨u,H3,I3,pu,q3⟩=>?_);rw[evalPart_none];refine wpAny_pure ?_;have I4:Inv X jn σ H3 { s3 with heap:=s3.heap.push { cls:=.type "slice",data:=.fields #[vl,vu,.none] } }:=I3.kept (t':=s3.toks) fun b ob q=>Ds _ q;obtain⟨T,id,hT,ht,hg⟩:=hr jn { s3 with heap:=s3.heap.push { cls:=.type "slice",data:=.fields #[vl,vu,.none] } } σ H3 x v vl vu l u s3.heap.objs.size Q I4 r1 (Heap.IsSliceOf.new ..) pl pu q3;show wpAny (model X.prog X.w) X.A (subscriptTail e (.Slice lo hi none p2) v (.ref s3.heap.objs.size)) (EP X jn σ Q) X.xe { s3 with heap:=s3.heap.push { cls:=.type "slice",data:=.fields #[vl,vu,.none] } };exact tail_any (ops:=[.ref s3.heap.objs.size,v]) ht hT hg (by with_unfolding_all rfl)
noncomputable def qG(xs:List V)(lo hi:Option Int):List V:=(xs.drop (HT.sIx xs.length 0 lo)).take (HT.sIx xs.length xs.length hi-HT.sIx xs.length 0 lo)
theorem o9(xs:List V)(lo hi:Option Int):(qG xs lo hi).length<=xs.length:=by
 unfold qG;rw[Lh,MA]
 lia
end
noncomputable def ixN(n:Nat)(i:Int):Option Nat:=if 0<=i then (if i<n then some i.toNat else none) else if -(n:Int)<=i then some (i+n).toNat else none
noncomputable def atI{α:Type}(xs:List α)(i:Int):Option α:=(ixN xs.length i).bind fun j=>xs[j]?
theorem r_{n:Nat}{i:Int}{j:Nat}(h:ixN n i=some j):seqIndex? i n=some j/\j<n/\-(n:Int)<=i/\i<n:=by
 unfold ixN at h;by_cases h0:0<=i
 ·rw[if_pos h0]at h;by_cases h1:i<n
  ·rw[if_pos h1]at h;have e:i.toNat=j:=Option.some.inj h;exact⟨by rw[seqIndex_of h0 h1,e],by lia,by lia,h1⟩
  ·rw[if_neg h1]at h;cases h
 ·rw[if_neg h0]at h;by_cases h1:-(n:Int)<=i
  ·rw[if_pos h1]at h;have e:(i+n).toNat=j:=Option.some.inj h;exact⟨by rw[seqIndex_neg (by lia) h1,e],by lia,h1,by lia⟩
  ·rw[if_neg h1]at h;cases h
theorem sd{α:Type}{xs:List α}{i:Int}{v:α}(h:atI xs i=some v):∃j,seqIndex? i xs.length=some j/\xs[j]?=some v/\j<xs.length/\-(xs.length:Int)<=i/\i<xs.length:=by
 unfold atI at h;cases e:ixN xs.length i with
 |none=>rw[e]at h;cases h
 |some j=>rw[e]at h;obtain⟨h1,h2,h3,h4⟩:=r_ e;exact⟨j,h1,h,h2,h3,h4⟩
def nk(b:Expr):Prop:=∀o i,subscripted b false o i=operate [o,i] (getItem o i)
def IxR(X:Cx)(r:R2):Prop:=
 ∀(value slice:Expr) (jn:List (Addr×Obj)) (s:Shared) (σ:St) (H:Hp) (x y:V) (v u:Value) (Q:VK),Inv X jn σ H s->RelV x v->RelV y u->r x y H Q ->
  subscripted slice false v u=operate [v,u] (getItem v u)->wpAny (model X.prog X.w) X.A (subscriptTail value slice v u) (EP X jn σ Q) X.xe s
def MtR(X:Cx)(id:String)(r:V->List V->Hp->VK->Prop):Prop:=
 ∀(jn:List (Addr×Obj)) (s:Shared) (σ:St) (H:Hp) (x:V) (xs:List V) (v:Value) (us:List Value) (Q:VK),Inv X jn σ H s->RelV x v->Vals xs us->r x xs H Q ->
  wpAny (model X.prog X.w) X.A (call (.builtin id) (v::us)) (EP X jn σ Q) X.xe s
section
variable{X:Cx}{a b:Expr}{ta tb:TE}{pos:Pos}
section
variable{jn:List (Addr×Obj)}{s:Shared}{H:Hp}{σ:St}
theorem IxR.or{r r':R2}(h:IxR X r)(h':IxR X r'):IxR X (fun x y H Q=>r x y H Q\/r' x y H Q):=by
 intro value slice jn s σ H x y v u Q I rx ry q hs;rcases q with q | q
 ·exact h value slice jn s σ H x y v u Q I rx ry q hs
 ·exact h' value slice jn s σ H x y v u Q I rx ry q hs
theorem BQ{r:R2}(hr:IxR X r)(ha:PE X a ta)(hb:PE X b tb)(hs:nk b):PE X (.Subscript a b pos) (tOp r ta tb):=by intro jn s σ H Q I h;exact Subscript_ (Dv ha hb I h fun v u s2 x y H2 I2 rx ry q=>hr a b jn s2 σ H2 x y v u Q I2 rx ry q (hs _ _))
def DR(K:gb):R2:=fun x y H Q=>∃p xs i v,x=.ref p/\y=.int i/\SqL K H p xs/\atI xs i=some v/\Q v H
def GG(K:gb):R2:=fun x y H Q=>∃p xs i v,x=.ref p/\y=.int i/\SqT K H p xs/\atI xs i=some v/\Q v H
theorem se:IxR X (DR X.K):=by
 intro value slice jn s σ H x y v u Q I rx ry h hs;obtain⟨p,xs,i,z,rfl,rfl,hq,he,q⟩:=h;cases rx;obtain⟨t,rfl⟩:=ry;obtain⟨its,r,pl,hz⟩:=I.list hq;obtain⟨j,h1,h2,h3,h4,h5⟩:=sd he;obtain⟨w,ew,rw'⟩:=r.get h2;have hl:=r.length;have hn:=nh;have Cq:EP X jn σ Q w s:=⟨z,H,I,rw',q⟩
 by_cases h0:0<=i
 ·have hj:i.toNat=j:=by
   rw[seqIndex_of h0 h5]at h1;exact Option.some.inj h1
  exact item_listR pl.isList h0 (by lia) (by rw[hj];simpa using ew) Cq hs
 ·have hj:(i+(its.toArray.size:Int)).toNat=j:=by
   rw[seqIndex_neg (by lia) h4]at h1;rw[Ky,<- hl];exact Option.some.inj h1
  exact subscriptTail_builtinR (x:=w) pl.isList.typeIs slot_list_getitem.lookup
   (wpAny_getItem_list_neg (Q:=fun r s'=>r=w/\EP X jn σ Q r s') pl.isList (by lia) (by rw[Ky]<;>lia) (by lia) (by rw[hj];simpa using ew) ⟨rfl,Cq⟩) hs
theorem DU:IxR X (GG X.K):=by
 intro value slice jn s σ H x y v u Q I rx ry h hs;obtain⟨p,xs,i,z,rfl,rfl,hq,he,q⟩:=h;cases rx;obtain⟨t,rfl⟩:=ry;obtain⟨its,r,pl,hz⟩:=I.tuple hq;obtain⟨j,h1,h2,h3,h4,h5⟩:=sd he;obtain⟨w,ew,rw'⟩:=r.get h2;have hl:=r.length;have hn:=nh;have Cq:EP X jn σ Q w s:=⟨z,H,I,rw',q⟩
 exact subscriptTail_builtinR (x:=w) pl.typeIs slot_tuple_getitem.lookup
  (getItem_tuple (j:=j) (Q:=fun r s'=>r=w/\EP X jn σ Q r s') pl (by lia) (by lia) (by rw[Ky,<- hl];exact h1) (by simpa using ew) ⟨rfl,Cq⟩) hs
theorem qH(its:List Value)(n j:Nat)(u:Value):K0 (·.setIfInBounds j u) { cls:=.type "list",data:=.seq its.toArray n }={ cls:=.type "list",data:=.seq (its.set j u).toArray n }:=by simp[K0]
theorem Inv.lst{jn:List (Addr×Obj)}{σ:St}{H:Hp}{s:Shared}{p:Addr}{xs:List V}(I:Inv X jn σ H s)(h:H p=some (.lst xs)) :
  ∃(its:List Value) (n:Nat),Vals xs its/\s.heap.get? p=some { cls:=.type "list",data:=.seq its.toArray n }/\xs.length<=sizeLine:=by
 obtain⟨z,its,n,r,e⟩:=I.hok p _ h;exact⟨its,n,r,e,z⟩
theorem Inv.DV{p:Addr}{xs ys:List V}{its its':List Value}{n n':Nat}{f:Obj->Obj}(I:Inv X jn σ H s)(h:H p=some (.lst xs))
  (ho:s.heap.get? p=some { cls:=.type "list",data:=.seq its.toArray n }) (hf:f { cls:=.type "list",data:=.seq its.toArray n }={ cls:=.type "list",data:=.seq its'.toArray n' }) (r:Vals ys its') (hz:ys.length<=sizeLine) (t:Nat) :
  Inv X jn σ (upd H p (.lst ys)) { s with heap:=s.heap.update p f,toks:=t }:=by
 have e:(s.heap.update p f).get? p=some { cls:=.type "list",data:=.seq its'.toArray n' }:=by rw[Heap.get?_update_self f ho (by rw[hf]<;>rfl),hf]
 refine I.write (x:=p) (e:=p) (by rw[h];trivial) (.inl rfl) (fun b u hb q=>(MV _ _ (Lg hb)).trans q) ⟨_,e⟩ ?_;exact⟨hz,its',n',r,e⟩
def BR:V->V->V->Hp->(Hp->Prop)->Prop:=fun o i v H Q=>∃p xs k j,o=.ref p/\i=.int k/\H p=some (.lst xs)/\ixN xs.length k=some j/\Q (upd H p (.lst (xs.set j v)))
theorem set_list:Gx X BR:=by
 intro jn s σ H o i v ov iv u Q I ro ri rv h;obtain⟨p,xs,k,j,rfl,rfl,hp,hj,q⟩:=h;cases ro;obtain⟨t,rfl⟩:=ri;obtain⟨its,n,r,ho,hz⟩:=I.lst hp;obtain⟨h1,h2,h3,h4⟩:=r_ hj;have hl:=r.length;have hn:=nh;have I':Inv X jn σ (upd H p (.lst (xs.set j v))) { s with heap:=s.heap.update p (K0 (·.setIfInBounds j u)) }:=
  I.DV hp ho (qH its n j u) (r.set rv j) (by rw[K8];exact hz) s.toks
 by_cases h0:0<=k
 ·have hk:k.toNat=j:=by
   rw[seqIndex_of h0 h4]at h1;exact Option.some.inj h1
  exact PySem.W.ki_setAt ho h0 (by lia) (by rw[Ky,<- hl];exact h4) (by rw[hk];exact⟨_,I',q⟩)
 ·have hk:(k+(its.toArray.size:Int)).toNat=j:=by
   rw[seqIndex_neg (by lia) h3]at h1;rw[Ky,<- hl];exact Option.some.inj h1
  exact PySem.W.ki_setBack ho (by lia) (by rw[Ky,<- hl];exact h3) (by lia) (by rw[hk];exact⟨_,I',q⟩)
theorem nt(lo hi:Option Int)(n:Nat):(sliceBounds lo hi none n).1=((HT.sIx n 0 lo:Nat):Int)/\(sliceBounds lo hi none n).2.1=((HT.sIx n n hi:Nat):Int)/\(sliceBounds lo hi none n).2.2=1:=by
 refine⟨?_,?_,rfl⟩
 ·cases lo with
  |none=>simp[sliceBounds,HT.sIx]
  |some i=>
   simp only[sliceBounds,HT.sIx,Option.getD_none,show (1:Int)>0 by decide,if_true];by_cases h:i<0
   ·simp only[h,if_true]<;>lia
   ·simp only[h,if_false]<;>lia
 ·cases hi with
  |none=>simp[sliceBounds,HT.sIx]
  |some i=>
   simp only[sliceBounds,HT.sIx,Option.getD_none,show (1:Int)>0 by decide,if_true];by_cases h:i<0
   ·simp only[h,if_true]<;>lia
   ·simp only[h,if_false]<;>lia
theorem lq(its:List Value)(lo hi:Option Int):slicePick its.toArray lo hi none=((its.drop (HT.sIx its.length 0 lo)).take (HT.sIx its.length its.length hi-HT.sIx its.length 0 lo)).toArray:=by obtain⟨h1,h2,h3⟩:=nt lo hi its.toArray.size;unfold slicePick;rw[h1,h2,h3];simp only[sliceRange_one,pick_run,Ky]<;>rfl
def GH(K:gb):V->Option Int->Option Int->Hp->VK->Prop:=fun x lo hi H Q=>∃a xs,x=.ref a/\SqL K H a xs/\∀p,H p=none->Q (.ref p) (upd H p (.lst (qG xs lo hi)))
theorem zw:SlR X (GH X.K):=by intro jn s σ H x v vl vu lo hi sl Q I rx hs pl pu h;obtain⟨a,xs,rfl,hx,q⟩:=h;cases rx;obtain⟨its,r,ht,hz⟩:=I.list hx;have xR:=r.length;refine⟨"list",_,slot_list_getitem.lookup,ht.isList.typeIs,?_⟩;refine wpAny_getItem_list_slice ht.isList hs pl pu .none (by simp) ?_ (by rw[Ky]<;>lia);rw[lq,<- xR];refine⟨.ref s.heap.objs.size,_,I.laid (t':=s.toks) (o:=.lst (qG xs lo hi)) (fun b ob q=>Ds _ q) (Nat.le_refl _) ?_,rfl,q _ (I.hok.fresh (Nat.le_refl _))⟩;exact⟨Nat.le_trans (o9 xs lo hi) hz,_,0,(r.drop (HT.sIx xs.length 0 lo)).take (HT.sIx xs.length xs.length hi-HT.sIx xs.length 0 lo),KU _ rfl⟩
theorem nu:dM X (.builtin "len") (fun xs H Q=>∃p ys,xs=[.ref p]/\(SqL X.K H p ys\/SqT X.K H p ys)/\Q (.int ys.length) H):=by
 intro jn s σ H xs us Q I r h;obtain⟨p,ys,rfl,hq,q⟩:=h;obtain⟨u,rfl,rx⟩:=vals1 r;cases rx;have hn:=nh;rcases hq with hq | hq
 ·obtain⟨its,r',pl,hz⟩:=I.list hq;have xR:=r'.length;exact Calls.call_len_list pl.isList (by simp only[Ky]<;>lia) ⟨.int ys.length,H,I.tok _,⟨s.toks+1,by rw[Ky,xR]⟩,q⟩
 ·obtain⟨its,r',pl,hz⟩:=I.tuple hq;have xR:=r'.length;exact len_tuple pl (by simp only[Ky]<;>lia) ⟨.int ys.length,H,I.tok _,⟨s.toks+1,by rw[Ky,xR]⟩,q⟩
theorem nv:dM X (.type "list") (fun xs H Q=>∃p ys,xs=[.ref p]/\(SqL X.K H p ys\/SqT X.K H p ys)/\∀l,H l=none->Q (.ref l) (upd H l (.lst ys))):=by
 intro jn s σ H xs us Q I r h;obtain⟨p,ys,rfl,hq,q⟩:=h;obtain⟨u,rfl,rx⟩:=vals1 r;cases rx;have Cq:∀(its:List Value),Vals ys its->ys.length<=sizeLine->∀(h':Heap) (c':Nat),(∀b o',s.heap.get? b=some o'->h'.get? b=some o') ->
   h'.get? s.heap.objs.size=some { cls:=.type "list",dict:=none,data:=.seq its.toArray c',slots:=#[] }->EP X jn σ Q (.ref s.heap.objs.size) { s with heap:=h' }:=fun its r' hz h' c' kp e=>
  ⟨.ref s.heap.objs.size,_,I.laid (t':=s.toks) kp (Nat.le_refl _) (show bq X.prog X.w _ h' _ (.lst ys) from ⟨hz,its,c',r',e⟩),rfl,q _ (I.hok.fresh (Nat.le_refl _))⟩
 rcases hq with hq | hq
 ·obtain⟨its,r',pl,hz⟩:=I.list hq;have xR:=r'.length;obtain⟨o,ho,hc,n,hd⟩:=pl.isList;exact call_list_seq p (.inl rfl) ho hc hd (fun h' c' kp e=>Cq its r' hz h' c' kp e) (by simp only[Ky]<;>lia)
 ·obtain⟨its,r',pl,hz⟩:=I.tuple hq;have xR:=r'.length;obtain⟨o,ho,hc,n,hd⟩:=pl;exact call_list_seq p (.inr rfl) ho hc hd (fun h' c' kp e=>Cq its r' hz h' c' kp e) (by simp only[Ky]<;>lia)
def tyV(K:gb)(T:String)(x:V)(H:Hp):Prop:=match x with
 |.str _=>T = "str"
 |.int _=>T = "int"
 |.ref p=>(T = "list" /\ ∃xs,SqL K H p xs)\/(T = "tuple" /\ ∃o,K.lookup p=some o/\o.cls=.type "tuple" /\ o.dict=none) \/
   (T = "dict" /\ ((∃kvs,H p=some (.dK kvs))\/∃kvs ts,H p=some (.dT kvs ts)))\/(T = "set" /\ ∃S n,H p=some (.set S n))
 |_=>False
theorem vR{T:String}{x:V}{v:Value}(I:Inv X jn σ H s)(r:RelV x v)(ty:tyV X.K T x H) :
  s.TypeIs v T/\∀a,v=.ref a->∃ob,s.heap.get? a=some ob/\ob.dict=none:=by
 cases x with
 |str z=>obtain⟨t,rfl⟩:=r;cases (show T = "str" from ty);exact⟨typeIs_str s z t,fun _ e=>nomatch e⟩
 |int i=>obtain⟨t,rfl⟩:=r;cases (show T = "int" from ty);exact⟨typeIs_int s i t,fun _ e=>nomatch e⟩
 |ref p=>
  cases r;rcases ty with⟨rfl,xs,hq⟩ | ⟨rfl,o,hk,hc,hd⟩ | ⟨rfl,hk⟩ | ⟨rfl,S,n,hk⟩
  ·obtain⟨its,_,pl,_⟩:=I.list hq;refine⟨pl.isList.typeIs,fun a e=>?_⟩;cases e;obtain⟨o,n,e,c,hd,_⟩:=pl;exact⟨o,e,hd⟩
  ·refine⟨⟨o,I.kIn p o hk,hc⟩,fun a e=>?_⟩;cases e;exact⟨o,I.kIn _ o hk,hd⟩
  ·have z:∃o,s.heap.get? p=some o/\o.ExactDict:=by
    rcases hk with⟨kvs,hk⟩ | ⟨kvs,ts,hk⟩
    ·obtain⟨_,_,_,_,o,_,_,e,ex,_⟩:=I.hok p _ hk;exact⟨o,e,ex⟩
    ·obtain⟨_,_,_,_,o,_,_,e,ex,_⟩:=I.hok p _ hk;exact⟨o,e,ex⟩
   obtain⟨o,e,ex⟩:=z;refine⟨⟨o,e,ex.1⟩,fun a e2=>?_⟩;cases e2;exact⟨o,e,ex.2.1⟩
  ·obtain⟨o,_,_,_,e,ex,_⟩:=I.hok p _ hk;refine⟨⟨o,e,ex.1⟩,fun a e2=>?_⟩;cases e2;exact⟨o,e,ex.2.1⟩
 |_=>exact K9 ty
def GI(K:gb)(T:String)(r:V->List V->Hp->VK->Prop)(to:TE):TE:=fun σ H Q=>to σ H fun x H1=>tyV K T x H1/\r x [] H1 Q
def tBM(K:gb)(T:String)(r:V->List V->Hp->VK->Prop)(to:TE)(t:TA):TE:=fun σ H Q=>to σ H fun x H1=>tyV K T x H1/\t σ H1 fun xs H2=>r x xs H2 Q
variable{o e:Expr}{es:List Expr}{to:TE}{t:TA}{name:Str}{J4 cpos:Pos}{T id:String}{r:V->List V->Hp->VK->Prop}
theorem DX(pa:PlainAttrs T)(slot:Slot T name id)(hty:typeOf (.builtin id)=pure (.type "method_descriptor"))(hm:MtR X id r)(ho:PE X o to)
  (Ih:attributeBase o name X.env (eval o X.env)=eval o X.env:=by rfl) (Ig:(J4.endLine == cpos.line)=true:=by rfl):PE X (.Call (.Attribute o name J4) [] [] cpos) (GI X.K T r to):=by
 intro jn s σ H Q I h;refine wpAny_Call_method0_late Ih Ig (thn (ho jn s σ H _ I h) fun v s1 ⟨x,H1,I1,r1,ty,q1⟩=>?_);obtain⟨h1,h2⟩:=vR I1 r1 ty;exact⟨T,id,pa,slot,hty,h1,h2,Calls.callWith_builtin rfl (PySem.evalArgs_none (hm jn s1 σ H1 x [] v [] Q I1 r1 .nil q1))⟩
theorem BS(pa:PlainAttrs T)(slot:Slot T name id)(hty:typeOf (.builtin id)=pure (.type "method_descriptor"))(hm:MtR X id r)(ho:PE X o to)(ha:PA X (e::es) t)
  (Ih:attributeBase o name X.env (eval o X.env)=eval o X.env:=by rfl)
  (hfew:((backTo cpos (starEach (e::es) X.env)).all (fun x=>!x.1)&&(backToKw cpos (keywordEach [] X.env)).all (fun x=>x.1.isSome)
   && decide ((e::es).length+([]:List Keyword).length+(if ([]:List Keyword).isEmpty then 0 else 1)<30))=true:=by rfl)
  (Ig:(J4.endLine == cpos.line)=true:=by rfl) (hs:starEach (e::es) X.env=(false,eval e X.env)::starEach es X.env:=by rfl) (Ij:(backTo cpos (starEach es X.env)).any (·.1)=false:=by rfl) :
  PE X (.Call (.Attribute o name J4) (e::es) [] cpos) (tBM X.K T r to t):=by
 intro jn s σ H Q I h;refine wpAny_Call_method_late Ih hfew Ig rfl (thn (ho jn s σ H _ I h) fun v s1 ⟨x,H1,I1,r1,ty,q1⟩=>?_);obtain⟨h1,h2⟩:=vR I1 r1 ty;refine⟨T,id,pa,slot,hty,h1,h2,?_⟩;have hA:=ha cpos jn s1 σ H1 _ I1 q1;rw[hs]at hA ⊢;refine Calls.callWith_builtin (by show (false||(backTo cpos (starEach es X.env)).any (·.1))=false;rw[Ij]<;>rfl) (Calls.evalArgs_plain ?_);exact thn hA fun us s2 ⟨vs,H2,I2,r2,q2⟩=>hm jn s2 σ H2 x vs v us Q I2 r1 r2 q2
end
end
def MtM(X:Cx)(id:String)(r:V->List V->Hp->VK->Prop):Prop:=
 ∀(jn:List (Addr×Obj)) (s:Shared) (σ:St) (H:Hp) (x:V) (xs:List V) (v:Value) (us:List Value) (Q:VK),Inv X jn σ H s->RelV x v->Vals xs us->r x xs H Q ->
  wpAny (model X.prog X.w) X.A (call (.builtin id) (v::us)) (EP X jn σ Q) X.xe s
theorem Vals.one:∀{x:V} {us:List Value},Vals [x] us->∃u,us=[u]/\RelV x u
 |_,_,.cons r .nil=>⟨_,rfl,r⟩
theorem Vals.zero:∀{us:List Value},Vals [] us->us=[]
 |_,.nil=>rfl
theorem Vals.rep{xs:List V}{us:List Value}(h:Vals xs us):∀k:Nat,Vals (Dk k xs).flatten (Dk k us).flatten
 |0=>.nil
 |k+1=>by rw[LU,LU,Mh,Mh];exact Vals.append h (Vals.rep h k)
theorem foldl_rep(its:List Value):∀(k:Nat) (AR:List Value),
  N4 (fun x1 x2=>x1++x2) AR.toArray (Dk k its.toArray)=(AR++(Dk k its).flatten).toArray
 |0,AR=>by simp
 |k+1,AR=>by
  have e:AR.toArray++its.toArray=(AR++its).toArray:=by simp
  have e2:(AR++its)++(Dk k its).flatten=AR++(Dk (k+1) its).flatten:=by rw[LU,Mh,Ln]
  rw[<- e2,<- foldl_rep its k (AR++its),<- e,LU,List.foldl_cons]
section
variable{X:Cx}{jn:List (Addr×Obj)}{σ:St}{H:Hp}{s:Shared}{l b:Addr}{xs ys zs:List V}
theorem Inv.GJ{its its':List Value}{n:Nat}{f:Array Value->Array Value}{t':Nat}(I:Inv X jn σ H s)(hH:H l=some (.lst xs))
  (e:s.heap.get? l=some { cls:=.type "list",data:=.seq its.toArray n }) (hf:f its.toArray=its'.toArray) (hv:Vals ys its') (hz:ys.length<=sizeLine) :
  Inv X jn σ (upd H l (.lst ys)) { s with heap:=s.heap.update l (K0 f),toks:=t' }:=by
 have q:=PySem.IsL.update e f;rw[hf]at q;refine I.write (x:=l) (e:=l) (by rw[hH];exact trivial) (.inl rfl) (fun b' u hb hu=>(MV s.heap (K0 f) (Lg hb)).trans hu) ⟨_,q⟩ ?_;exact⟨hz,its',_,hv,q⟩
theorem Inv.DY{its:List Value}{t':Nat}(I:Inv X jn σ H s)(hv:Vals ys its)(hz:ys.length<=sizeLine) :
  Inv X jn σ (upd H s.heap.objs.size (.lst ys)) { s with heap:=s.heap.push { cls:=.type "list",data:=.seq its.toArray },toks:=t' }:=
 I.laid (fun _ _ q=>Ds _ q) (Nat.le_refl _) ⟨hz,its,0,hv,KU _ rfl⟩
theorem Inv.fresh(I:Inv X jn σ H s):H s.heap.objs.size=none:=I.hok.fresh (Nat.le_refl _)
theorem Inv.GK(I:Inv X jn σ H s)(hH:H l=some (.lst xs)):xs.length<=sizeLine/\∃(its:List Value) (n:Nat),Vals xs its/\xs.length=its.length/\s.heap.get? l=some { cls:=.type "list",data:=.seq its.toArray n }:=by obtain⟨z,its,n,r,e⟩:=I.hok l _ hH;exact⟨z,its,n,r,r.length,e⟩
theorem vS{n:Nat}(h:n<=sizeLine):MG n=false:=by unfold MG;exact decide_eq_false (by lia)
end
section
variable{X:Cx}
def ny:V->List V->Hp->VK->Prop:=fun x vs H Q=>∃l xs y,x=.ref l/\vs=[y]/\H l=some (.lst xs)/\xs.length<sizeLine/\Q .non (upd H l (.lst (xs++[y])))
theorem iO:MtM X "list.append" ny:=by
 intro jn s σ H x vs v us Q I rx rv h;obtain⟨l,xs,y,rfl,rfl,hH,hz,q⟩:=h;cases rx;obtain⟨u,rfl,ru⟩:=rv.one;obtain⟨z,its,n,r,hl,e⟩:=I.GK hH;refine call_meets F.slot_list_append ⟨_,e,rfl⟩ F.entry_list_append (F.args_list_append_2 _ _) (PySem.list_append l its.toArray n u (by rw[Ky];lia)) ⟨e,?_⟩;refine⟨.non,_,I.GJ (its':=its++[u]) hH e (by simp) (r.append (.cons ru .nil)) ?_,rfl,q⟩;rw[KL,Me]
 lia
def vU:V->List V->Hp->VK->Prop:=fun x vs H Q=>∃l xs,x=.ref l/\vs=[]/\H l=some (.lst xs)/\Q .non (upd H l (.lst []))
theorem vV:MtM X "list.clear" vU:=by intro jn s σ H x vs v us Q I rx rv h;obtain⟨l,xs,rfl,rfl,hH,q⟩:=h;cases rx;have hus:=rv.zero;subst hus;obtain⟨z,its,n,r,hl,e⟩:=I.GK hH;refine call_meets F.slot_list_clear ⟨_,e,rfl⟩ F.entry_list_clear (F.args_list_clear_1 _) (AutoSeq1.list_clear_list_0 l its.toArray n (by rw[Ky];lia)) ⟨e,?_⟩;exact⟨.non,_,I.GJ (its':=[]) (ys:=[]) hH e rfl .nil (Lc _),rfl,q⟩
theorem len_rep{α:Type}(xs:List α)(k:Nat):(Dk k xs).flatten.length=k*xs.length:=by
 induction k with
 |zero=>simp
 |succ k ih=>rw[LU,Mh,KL,ih,Nat.succ_mul,Nat.add_comm]
end
end L2
namespace Att
open PySem PySem.W PySem.Calls PyProof.Rows
theorem ji{P:Params}{h:Heap}:∀(ns:List Int) (vs:List Value),WellAll P h vs (ns.map WData.int)->IntsAre vs ns:=by
 intro ns
 induction ns with
 |nil=>intro vs w;rw[List.map_nil]at w;cases w;exact .nil
 |cons n ns ih=>
  intro vs w;rw[KA]at w;cases w with
  |cons a b=>cases a;exact .cons _ _ (ih _ b)
theorem uw{l:OpenLaw}{n:Nat}(hn:l.most=some n){P:Params}{h:Heap}{args:List WData}{vals:List Value}
  (hpre:l.row.toRowW.claim.pre args=true) (hwl:WellAll P h vals args) :
  ∃a vs ns,vals=[LD a]/\args=[WData.list (ns.map WData.int)]/\h.get? a=some { cls:=.type "list",data:=.seq vs.toArray }/\IntsAre vs ns/\ns.length<=n:=by
 have hsh:WShape.hasAll [] args [.list .int]=true:=(pre_splitW hpre).1;have hc:l.pre.holds [] { args:=args }=true:=(pre_splitW hpre).2;obtain⟨d,r,rfl,h1,h2⟩:=hasAllW_cons hsh;obtain rfl:=hasAllW_nil h2;obtain⟨xs,rfl,h3⟩:=hasW_list h1;obtain⟨ns,rfl⟩:=items_int h3;have xR:ns.length<=n:=by
  unfold OpenLaw.pre at hc;have h4:(WTm.not (.lt (.lit (.int (n:Int))) (.len (.arg 0)))).holds [] { args:=[.list (ns.map .int)] }=true:=by have h4:=(holds_andW hc).1;rw[hn]at h4;exact h4
  have h5:=condW_of h4 (w_not (w_lt w_lit (w_len_list (w_arg rfl))));rw[gp]at h5;refine Nat.le_of_not_lt fun q=>?_;have q':(n:Int)<((ns.length:Nat):Int):=by omega
  first
   |(rw[decide_eq_true q']at h5;exact absurd h5 (by decide))
   |(simp at h5;omega)
 cases hwl with
 |cons w1 w2=>
  cases w2;cases w1 with
  |list ho hall=>exact⟨_,_,ns,rfl,rfl,ho,ji ns _ hall,xR⟩
theorem ux(l:OpenLaw)(args:List WData):l.row.toRowW.claim.post args (.bool true) args=true:=
 postW_of (r:=l.row.toRowW) (X:=(true == true))
  (show WShape.has [] (.bool true) .bool=true by first | rfl | decide | simp[WShape.has,WShape.arms,WShape.armsAll])
  (show (WTm.eq .res (.lit (.bool true))).value [] { args:=args,res:=some (.bool true),after:=args }=some (.bool (true == true)) from w_eq_bool (w_res rfl) w_lit) rfl
theorem o_{l:OpenLaw}{n:Nat}{q:Program}{loose:List Str}{XP:(Str->Option Value)->Heap->Prop}{YP:World->Heap->Prop}{d:DefRec}
  (hn:l.most=some n) (hdf:d.params.defaults=[])
  (call:∀ (w:World) (s₀ s₁:Shared) (mg mb:Str→Option Value) (fa:Addr) (o:Obj) (pm cd doc:Value) (a:Addr) (vs:List Value) (ns:List Int),
   Ground q loose [] XP w s₀ mg mb s₁.heap->YP w s₁.heap ->
   s₁.heap.get? fa=some o->o.data=.func (docDef d.name d.params d.body d.scope pm cd doc)->s₁.heap.CodeRec cd d.name->mg d.name=some (.ref fa) ->
   s₁.heap.get? a=some { cls:=.type "list",data:=.seq vs.toArray }->IntsAre vs ns->ns.length<=n->s₁.gens=#[] ->
   codeAny (model l.prog w) callerA (.call (.ref fa) ⟨[.ref a],[]⟩) (fun r s'=>r=.ok (.ret (.bool true))/\OldK s₁.heap s'.heap/\s'.os=s₁.os/\AllBare s'.gens) s₁) :
  WalkO q loose XP YP l.row.toRowW d [] (fun f vs=>PySem.call f vs):=by
 intro w s₀ s₁ mg mb G Y fa o pm cd doc dV kV ho hd FG hD hmg hg args vals as hpre hlay hrd hwl hlo;obtain rfl:dV=.none:=Dflts.none hD hdf;obtain rfl:kV=.none:=Dflts.noKw hD;obtain⟨a,vs,ns,rfl,rfl,hobj,hints,xR⟩:=uw hn hpre hwl;refine enter_call (codeAny_mono (call w s₀ s₁ mg mb fa o pm cd doc a vs ns G Y ho (fd_plain hd) FG hmg hobj hints xR hg) fun r s' hq=>?_);obtain⟨rfl,h2,h3,h4⟩:=hq;exact⟨.inl ⟨.bool true,.bool true,[],rfl,fun _=>rfl,.bool true,ux l _,fun _=>⟨List.Pairwise.nil,fun _ hm=>(nomatch hm)⟩⟩,h2,h3,h4⟩
end Att
namespace L2
open PySem PySem.Spec PyProof.Rows
noncomputable def aR(s:Stmt):Arguments:=match s with
 |.FunctionDef _ a _ _ _ _ _ _ _ _=>a
 |_=>{ posonlyargs:=[],args:=[],vararg:=none,kwonlyargs:=[],kw_defaults:=[],kwarg:=none,defaults:=[] }
noncomputable def aH(s:Stmt):List Stmt:=match s with
 |.FunctionDef _ _ b _ _ _ _ _ _ _=>b
 |_=>[]
noncomputable def aa(s:Stmt):Scope:=match s with
 |.FunctionDef _ _ _ _ _ _ sc _ _ _=>sc
 |_=>{ kind:=.function,names:=[],isGenerator:=false,isCoroutine:=false }
noncomputable abbrev CX0:CXT:=fun _ _ _ _ _ _=>False
noncomputable abbrev E0:XK:=fun _ _ _=>False
theorem gT{X:Cx}:Passes CX0 X E0:=fun _ _ _ _ _ _ _ h=>h.elim
structure Fun(K:gb)(x qual:Str)(st:Stmt)(f:Addr)(fd:FuncData):Prop where
 ex:∃(oc:Value) (od:Option Addr) (kV doc pm:Value) (an:Option Addr) (cdv ct:Value) (osl:Array (Option Value)),
  fd=K1 x qual (aR st) (aH st) (aa st) .none kV doc pm an cdv ct/\K.lookup f=some ⟨oc,od,.func fd,osl⟩/\Mj K cdv qual=true
 kp:Le K (.ref f)=true
section
variable{P:Program}{w:World}{K:gb}{mg:Str->Option Value}{base:Heap}
section
variable{x qual:Str}{st:Stmt}{fd:FuncData}{f:Addr}
theorem Fun.ok{N ps:List Str}{k:Nat}{sp:Sp}(F:Fun K x qual st f fd)(S:ao N ps (aa st))(len:∀vs H Q E,sp vs H Q E->vs.length=ps.length)
  (hbody:∀ (cdv:Value) (A:Around) (outer:List Env) (s:Shared) (H:Hp) (vs:List V) (Q:VK) (E:XK),aV k (A.deeper (envOfC qual (aa st) s.heap.objs.size f cdv))→sp vs H Q E →
   ∃t,PSs (gS CX0 P w K mg base N qual (aa st) f cdv A outer s H E).nox (aH st) t/\t { nx:=fun _ H'=>Q .non H',rt:=Q } (start N vs) H):aO P w K mg base CX0 (k+1) f fd ps sp:=by
 obtain⟨oc,od,kV,doc,pm,an,cdv,ct,osl,rfl,lk,FG⟩:=F.ex;refine r9 lk FG S len fun A outer s H vs Q E hr hsp=>?_;obtain⟨t,h,q⟩:=hbody cdv A outer s H vs Q E hr hsp;exact⟨t,h.nox,q⟩
theorem Fun.binds{ps:List Str}(F:Fun K x qual st f fd)
  (h:∀(kV doc pm:Value) (an:Option Addr) (cdv ct:Value) (us:List Value),us.length=ps.length->bindArgs (K1 x qual (aR st) (aH st) (aa st) .none kV doc pm an cdv ct) ⟨us,[]⟩=pure (ps.zip us)):Binds K fd ps []:=by
 obtain⟨oc,od,kV,doc,pm,an,cdv,ct,osl,rfl,lk,FG⟩:=F.ex;exact .all (h kV doc pm an cdv ct)
theorem vW{oc:Value}{od an:Option Addr}{osl:Array (Option Value)}{kV doc pm cdv ct:Value}(l:K.lookup f=some ⟨oc,od,.func (K1 x qual (aR st) (aH st) (aa st) .none kV doc pm an cdv ct),osl⟩)
  (c:Mj K cdv qual=true) (k:Le K (.ref f)=true):Fun K x qual st f (K1 x qual (aR st) (aH st) (aa st) .none kV doc pm an cdv ct):=⟨⟨oc,od,kV,doc,pm,an,cdv,ct,osl,rfl,l,c⟩,k⟩
end
end
def ah(H H':Hp):Prop:=∀b o,H b=some o->H' b=some o
theorem ah.refl(H:Hp):ah H H:=fun _ _ h=>h
theorem ah.trans{H H1 H2:Hp}(a:ah H H1)(b:ah H1 H2):ah H H2:=fun c o h=>b c o (a c o h)
theorem ah.free{H H':Hp}(e:ah H H'){l:Addr}(h:H' l=Option.none):H l=Option.none:=by
 cases q:H l with
 |none=>rfl
 |some o=>rw[e l o q]at h;cases h
end L2
namespace Dm
inductive Dat where
 |non
 |bl (b:Bool)
 |int (i:Int)
 |str (s:List Nat)
 |tup (xs:List Dat)
 |lst (xs:List Dat)
 |dct (ks:List Int) (vs:List Dat)
 |dcp (ks:List (Int×Int)) (vs:List Dat)
 |exc (C:Nat)
 |eW (C:Nat) (v:Int)
 |fn (a:Nat)
deriving Inhabited
inductive Cell where
 |un
 |sh (d:Dat)
 |ow (d:Dat)
deriving Inhabited
noncomputable abbrev Env:=List Cell
inductive Val where
 |val (d:Dat)
 |slot (i:Nat)
 |new (d:Dat)
inductive RV where
 |val (d:Dat)
 |new (d:Dat)
noncomputable def RV.dat:RV->Dat
 |.val d=>d
 |.new d=>d
noncomputable def RV.bF:RV->Val
 |.val d=>.val d
 |.new d=>.new d
noncomputable def SZ:Nat:=100000
noncomputable def cQ:Dat->Bool
 |.tup _=>true
 |.lst _=>true
 |.dct _ _=>true
 |.dcp _ _=>true
 |.exc _=>true
 |.eW _ _=>true
 |_=>false
noncomputable def pk(ρ:Env):Val->Option Dat
 |.val d=>some d
 |.new d=>some d
 |.slot i=>match ρ[i]? with
  |some (.ow d)=>some d
  |some (.sh d)=>some d
  |_=>none
noncomputable def tk(ρ:Env):Val->Option (Dat×Env)
 |.val d=>some (d,ρ)
 |.new d=>some (d,ρ)
 |.slot i=>match ρ[i]? with
  |some (.ow d)=>some (d,ρ.set i (.sh d))
  |some (.sh d)=>some (d,ρ)
  |_=>none
noncomputable def pks(ρ:Env):List Val->Option (List Dat)
 |[]=>some []
 |x::r=>match pk ρ x with
  |none=>none
  |some d=>match pks ρ r with
   |none=>none
   |some ds=>some (d::ds)
noncomputable def tks(ρ:Env):List Val->Option (List Dat×Env)
 |[]=>some ([],ρ)
 |x::r=>match tk ρ x with
  |none=>none
  |some (d,ρ1)=>match tks ρ1 r with
   |none=>none
   |some (ds,ρ2)=>some (d::ds,ρ2)
noncomputable abbrev FE:=Env->Option (Val×Env)
noncomputable abbrev FT:=Env->Option (Bool×Env)
noncomputable def eC(d:Dat):FE:=fun ρ=>some (.val d,ρ)
noncomputable def eV(i:Nat):FE:=fun ρ=>match ρ[i]? with
 |some (.sh d)=>some (.val d,ρ)
 |some (.ow _)=>some (.slot i,ρ)
 |_=>none
noncomputable def e1(g:Dat->Option RV)(a:FE):FE:=fun ρ=>match a ρ with
 |none=>none
 |some (x,ρ1)=>match pk ρ1 x with
  |none=>none
  |some d=>match g d with
   |none=>none
   |some v=>some (v.bF,ρ1)
noncomputable def e2(g:Dat->Dat->Option RV)(a b:FE):FE:=fun ρ=>match a ρ with
 |none=>none
 |some (x,ρ1)=>match b ρ1 with
  |none=>none
  |some (y,ρ2)=>match pk ρ2 x with
   |none=>none
   |some d=>match pk ρ2 y with
    |none=>none
    |some e=>match g d e with
     |none=>none
     |some v=>some (v.bF,ρ2)
noncomputable def eAs:List FE->Env->Option (List Val×Env)
 |[],ρ=>some ([],ρ)
 |a::r,ρ=>match a ρ with
  |none=>none
  |some (x,ρ1)=>match eAs r ρ1 with
   |none=>none
   |some (xs,ρ2)=>some (x::xs,ρ2)
noncomputable def eB(g:List Dat->Option RV)(as:List FE):FE:=fun ρ=>match eAs as ρ with
 |none=>none
 |some (xs,ρ1)=>match pks ρ1 xs with
  |none=>none
  |some ds=>match g ds with
   |none=>none
   |some v=>some (v.bF,ρ1)
noncomputable def eN(as:List FE):FE:=fun ρ=>match eAs as ρ with
 |none=>none
 |some (xs,ρ1)=>match tks ρ1 xs with
  |none=>none
  |some (ds,ρ2)=>if ds.length<=SZ then some (.val (.tup ds),ρ2) else none
noncomputable def dI(as:List FE):FE:=fun ρ=>match eAs as ρ with
 |none=>none
 |some (xs,ρ1)=>match tks ρ1 xs with
  |none=>none
  |some (ds,ρ2)=>if ds.length<=SZ then some (.new (.lst ds),ρ2) else none
noncomputable def eF(f:List Dat->Option RV)(as:List FE):FE:=fun ρ=>match eAs as ρ with
 |none=>none
 |some (xs,ρ1)=>match pks ρ1 xs with
  |none=>none
  |some ds=>match f ds with
   |none=>none
   | some v=>if cQ v.dat then (match tks ρ1 xs with
     |none=>none
     |some (_,ρ2)=>some (v.bF,ρ2)) else some (v.bF,ρ1)
noncomputable def eIf(t:FT)(a b:FE):FE:=fun ρ=>match t ρ with
 |none=>none
 |some (true,ρ1)=>a ρ1
 |some (false,ρ1)=>b ρ1
noncomputable def iP(a b:FE):FE:=fun ρ=>match a ρ with
 |some (.val (.bl true),ρ1)=>b ρ1
 |some (.val (.bl false),ρ1)=>some (.val (.bl false),ρ1)
 |_=>none
noncomputable def qI(a:FE):FE:=fun ρ=>match a ρ with
 |some (.val (.bl c),ρ1)=>some (.val (.bl (!c)),ρ1)
 |_=>none
noncomputable def tV(a:FE):FT:=fun ρ=>match a ρ with
 |some (.val (.bl c),ρ1)=>some (c,ρ1)
 |_=>none
noncomputable def dg(t:FT):FT:=fun ρ=>match t ρ with
 |some (c,ρ1)=>some (!c,ρ1)
 |none=>none
noncomputable def lg(t u:FT):FT:=fun ρ=>match t ρ with
 |some (true,ρ1)=>u ρ1
 |some (false,ρ1)=>some (false,ρ1)
 |none=>none
noncomputable def tOr(t u:FT):FT:=fun ρ=>match t ρ with
 |some (true,ρ1)=>some (true,ρ1)
 |some (false,ρ1)=>u ρ1
 |none=>none
noncomputable def di:FT:=fun ρ=>some (true,ρ)
noncomputable abbrev FI:=Env->Option (List Dat×Env)
noncomputable def iL(a:FE):FI:=fun ρ=>match a ρ with
 |none=>none
 |some (x,ρ1)=>match tk ρ1 x with
  |some (.lst ds,ρ2)=>some (ds,ρ2)
  |_=>none
noncomputable def iT(a:FE):FI:=fun ρ=>match a ρ with
 |none=>none
 |some (x,ρ1)=>match tk ρ1 x with
  |some (.tup ds,ρ2)=>some (ds,ρ2)
  |_=>none
noncomputable def iS(a:FE):FI:=fun ρ=>match a ρ with
 |none=>none
 |some (x,ρ1)=>match tk ρ1 x with
  |some (.lst ds,ρ2)=>some (ds,ρ2)
  |some (.tup ds,ρ2)=>some (ds,ρ2)
  |_=>none
noncomputable def ups(lo:Int)(n:Nat):List Dat:=(KY n).map fun i=>Dat.int (lo+(i:Nat))
noncomputable def downs(hi:Int)(n:Nat):List Dat:=(KY n).map fun i=>Dat.int (hi-(i:Nat))
noncomputable def BIG:Int:=1000000000
noncomputable def iR1(a:FE):FI:=fun ρ=>match a ρ with
 |some (.val (.int j),ρ1)=>if j<=BIG/\-BIG<=j then some (ups 0 j.toNat,ρ1) else none
 |_=>none
noncomputable def iR2(a b:FE):FI:=fun ρ=>match a ρ with
 | some (.val (.int i),ρ1)=>(match b ρ1 with
  |some (.val (.int j),ρ2)=>if j<=BIG/\-BIG<=j/\i<=BIG/\-BIG<=i then some (ups i (j-i).toNat,ρ2) else none
  |_=>none)
 |_=>none
noncomputable abbrev FB:=Dat->Env->Option Env
noncomputable def bN(i:Nat):FB:=fun d ρ=>if i=0 then none else some (ρ.set i (.sh d))
noncomputable def sets:List Nat->List Dat->Env->Option Env
 |[],[],ρ=>some ρ
 |i::is,d::ds,ρ=>if i=0 then none else sets is ds (ρ.set i (.sh d))
 |_,_,_=>none
noncomputable def bT(is:List Nat):FB:=fun d ρ=>match d with
 |.tup ds=>sets is ds ρ
 |_=>none
noncomputable def cA(bd:FB)(t:FT)(el:FE):List Dat->Env->List Dat->Option (List Dat×Env)
 |[],ρ,AR=>some (AR,ρ)
 |d::r,ρ,AR=>match bd d ρ with
  |none=>none
  |some ρ1=>match t ρ1 with
   |none=>none
   |some (false,ρ2)=>cA bd t el r ρ2 AR
   |some (true,ρ2)=>match el ρ2 with
    |none=>none
    |some (x,ρ3)=>match tk ρ3 x with
     |none=>none
     |some (y,ρ4)=>cA bd t el r ρ4 (AR++[y])
noncomputable def cB(it:FI)(own:Nat)(bd:FB)(t:FT)(el:FE):FE:=fun ρ=>match it ρ with
 |none=>none
 | some (ds,ρ1)=>if ds.length≤SZ then (match cA bd t el ds (ρ1++Dk own .un) [] with
  |none=>none
  |some (ys,ρ2)=>some (.new (.lst ys),ρ2.take ρ1.length)) else none
inductive Out where
 |nx (ρ:Env)
 |ret (r:RV) (ρ:Env)
 |bk (ρ:Env)
 |ct (ρ:Env)
noncomputable abbrev FS:=Env->Option Out
noncomputable def sNx:FS:=fun ρ=>some (.nx ρ)
noncomputable def aI(s u:FS):FS:=fun ρ=>match s ρ with
 |some (.nx ρ1)=>u ρ1
 |o=>o
noncomputable def sA(i:Nat)(e:FE):FS:=fun ρ=>if i=0 then none else match e ρ with
 |none=>none
 |some (.new d,ρ1)=>some (.nx (ρ1.set i (.ow d)))
 |some (x,ρ1)=>match tk ρ1 x with
  |none=>none
  |some (d,ρ2)=>some (.nx (ρ2.set i (.sh d)))
noncomputable def sE(e:FE):FS:=fun ρ=>match e ρ with
 |none=>none
 |some (_,ρ1)=>some (.nx ρ1)
noncomputable def sR(e:FE):FS:=fun ρ=>match e ρ with
 |none=>none
 |some (.new d,ρ1)=>some (.ret (.new d) ρ1)
 |some (.val d,ρ1)=>some (.ret (.val d) ρ1)
 |some (.slot i,ρ1)=>match ρ1[i]? with
  |some (.ow d)=>some (.ret (.new d) (ρ1.set i .un))
  |some (.sh d)=>some (.ret (.val d) ρ1)
  |_=>none
noncomputable def sIf(t:FT)(a b:FS):FS:=fun ρ=>match t ρ with
 |none=>none
 |some (true,ρ1)=>a ρ1
 |some (false,ρ1)=>b ρ1
noncomputable def nB(i:Nat)(e:FE):FS:=fun ρ=>match ρ[i]? with
 | some (.ow (.lst _))=>(match e ρ with
  |none=>none
  |some (x,ρ1)=>match tk ρ1 x with
   |none=>none
   |some (d,ρ2)=>match ρ2[i]? with
    |some (.ow (.lst ds))=>if ds.length<SZ then some (.nx (ρ2.set i (.ow (.lst (ds++[d]))))) else none
    |_=>none)
 |_=>none
noncomputable def ixN(n:Nat)(i:Int):Option Nat:=
 if 0<=i then (if i<n then some i.toNat else none) else if -(n:Int)<=i then some (i+n).toNat else none
noncomputable def qJ(i:Nat)(j e:FE):FS:=fun ρ=>match e ρ with
 |none=>none
 |some (x,ρ1)=>match tk ρ1 x with
  |none=>none
  |some (d,ρ2)=>match ρ2[i]? with
   | some (.ow _)=>(match j ρ2 with
    | some (.val (.int k),ρ3)=>(match ρ3[i]? with
     | some (.ow (.lst ds))=>(match ixN ds.length k with
      |none=>none
      |some m=>some (.nx (ρ3.set i (.ow (.lst (ds.set m d))))))
     |_=>none)
    |_=>none)
   |_=>none
noncomputable def iQ(bd:FB)(body:FS):List Dat->FS
 |[],ρ=>some (.nx ρ)
 |d::r,ρ=>match bd d ρ with
  |none=>none
  |some ρ1=>match body ρ1 with
   |some (.nx ρ2)=>iQ bd body r ρ2
   |some (.ct ρ2)=>iQ bd body r ρ2
   |some (.bk ρ2)=>some (.nx ρ2)
   |some (.ret v ρ2)=>some (.ret v ρ2)
   |none=>none
noncomputable def gh(it:FI)(bd:FB)(body:FS):FS:=fun ρ=>match it ρ with
 |none=>none
 |some (ds,ρ1)=>iQ bd body ds ρ1
noncomputable def fn(n m:Nat)(body:FS)(ds:List Dat):Option RV:=if ds.length=n then (match body (ds.map Cell.sh++Dk m .un) with
 |some (.ret r _)=>some r
 |some (.nx _)=>some (.val .non)
 |_=>none) else none
noncomputable def b2i(b:Bool):Int:=if b then 1 else 0
mutual
noncomputable def eqD:Dat->Dat->Bool
 |.non,.non=>true
 |.bl a,.bl b=>a == b
 |.bl a,.int j=>b2i a == j
 |.int i,.bl b=>i == b2i b
 |.int i,.int j=>i == j
 |.str a,.str b=>a == b
 |.tup xs,.tup ys=>gj xs ys
 |.lst xs,.lst ys=>gj xs ys
 |_,_=>false
noncomputable def gj:List Dat->List Dat->Bool
 |[],[]=>true
 |x::xs,y::ys=>eqD x y&&gj xs ys
 |_,_=>false
end
noncomputable def okD:Nat->Dat->Bool
 |_,.dct _ _=>false
 |_,.dcp _ _=>false
 |_,.exc _=>false
 |_,.eW _ _=>false
 |_,.fn _=>false
 |_,.str s=>s.all fun c=>decide (c<128)
 |0,.tup _=>false
 |0,.lst _=>false
 |n+1,.tup xs=>xs.all (okD n)
 |n+1,.lst xs=>xs.all (okD n)
 |_,_=>true
noncomputable abbrev vB(b:Bool):Option RV:=some (.val (.bl b))
noncomputable def jj(p:Dat->Bool):Dat->Option RV
 |.exc _=>none
 |.eW _ _=>none
 |.fn _=>none
 |d=>vB (p d)
noncomputable abbrev vI(i:Int):Option RV:=some (.val (.int i))
noncomputable def gEq(x y:Dat):Option RV:=if okD 8 x&&okD 8 y then vB (eqD x y) else none
noncomputable def gNe(x y:Dat):Option RV:=if okD 8 x&&okD 8 y then vB (!eqD x y) else none
noncomputable def gLt:Dat->Dat->Option RV
 |.int i,.int j=>vB (decide (i<j))
 |_,_=>none
noncomputable def gLe:Dat->Dat->Option RV
 |.int i,.int j=>vB (decide (i<=j))
 |_,_=>none
noncomputable def gGt:Dat->Dat->Option RV
 |.int i,.int j=>vB (decide (j<i))
 |_,_=>none
noncomputable def gGe:Dat->Dat->Option RV
 |.int i,.int j=>vB (decide (j<=i))
 |_,_=>none
noncomputable def B64:Int:=18446744073709551616
noncomputable def bO:Dat->Dat->Option RV
 |.int i,.int j=>vI (i+j)
 |.lst xs,.lst ys=>if xs.length+ys.length<=SZ then some (.new (.lst (xs++ys))) else none
 |_,_=>none
noncomputable def iM:Dat->Dat->Option RV
 |.int i,.int j=>vI (i-j)
 |_,_=>none
noncomputable def gk:Dat->Dat->Option RV
 |.int i,.int j=>if (-B64<i/\i<B64)\/(-B64<j/\j<B64) then vI (i*j) else none
 |.lst xs,.int k=>if k<=BIG/\-BIG<=k/\xs.length*k.toNat<=SZ then some (.new (.lst (Dk k.toNat xs).flatten)) else none
 |_,_=>none
noncomputable def gu:Int:=1606938044258990275541962092341162602522202993782792835301376
noncomputable def uy:Dat->Dat->Option RV
 |.int i,.int j=>if 0<j/\j<gu then vI (i / j) else none
 |_,_=>none
noncomputable def fV:Dat->Dat->Option RV
 |.int i,.int j=>if 0<j then vI (i % j) else none
 |_,_=>none
noncomputable def gv:Dat->Dat->Option RV
 |.int i,.int j=>if 0<=j/\j<=1000000/\i.natAbs<1000000 then vI (i ^ j.toNat) else none
 |_,_=>none
noncomputable def zz:Dat->Option RV
 |.int i=>vI (-i)
 |_=>none
noncomputable def atI(xs:List Dat)(i:Int):Option Dat:=(ixN xs.length i).bind fun j=>xs[j]?
noncomputable def gIx:Dat->Dat->Option RV
 |.lst xs,.int i=>(atI xs i).map .val
 |.tup xs,.int i=>(atI xs i).map .val
 |_,_=>none
noncomputable def inD(x:Dat)(xs:List Dat):Bool:=xs.any fun y=>eqD y x
noncomputable def gIn:Dat->Dat->Option RV
 |x,.lst xs=>if okD 8 x&&xs.all (okD 7) then vB (inD x xs) else none
 |x,.tup xs=>if okD 8 x&&xs.all (okD 7) then vB (inD x xs) else none
 |_,_=>none
noncomputable def iR:Dat->Dat->Option RV
 |x,.lst xs=>if okD 8 x&&xs.all (okD 7) then vB (!inD x xs) else none
 |x,.tup xs=>if okD 8 x&&xs.all (okD 7) then vB (!inD x xs) else none
 |_,_=>none
noncomputable def sIx(n d:Nat):Option Int->Nat
 |none=>d
 |some v=>(if v<0 then max (v+n) 0 else min v n).toNat
noncomputable def cut(xs:List Dat)(lo hi:Option Int):List Dat:=(xs.drop (sIx xs.length 0 lo)).take (sIx xs.length xs.length hi-sIx xs.length 0 lo)
noncomputable def cV:List Dat->Option RV
 |[.lst xs]=>vI xs.length
 |[.tup xs]=>vI xs.length
 |_=>none
noncomputable def i9:List Dat->Option RV
 |[.int i,.int j]=>vI (if j<i then j else i)
 |_=>none
noncomputable def i_:List Dat->Option RV
 |[.int i,.int j]=>vI (if j>i then j else i)
 |_=>none
noncomputable def pq:List Dat->Option RV
 |[.lst xs]=>some (.new (.lst xs))
 |[.tup xs]=>some (.new (.lst xs))
 |_=>none
noncomputable def isI:Dat->Bool
 |.int _=>true
 |.bl _=>true
 |_=>false
noncomputable def isB:Dat->Bool
 |.bl _=>true
 |_=>false
noncomputable def isL:Dat->Bool
 |.lst _=>true
 |_=>false
noncomputable def isT:Dat->Bool
 |.tup _=>true
 |_=>false
noncomputable def bools:List Dat->Option (List Bool)
 |[]=>some []
 |.bl b::r=>(bools r).map fun bs=>b::bs
 |_=>none
noncomputable def pA:List Dat->Option RV
 | [.lst xs]=>(match bools xs with
  |some bs=>vB (bs.all id)
  |none=>none)
 |_=>none
noncomputable def jN(g h:Dat->Dat->Option RV)(a b c:FE):FE:=fun ρ=>match a ρ with
 |none=>none
 |some (x,ρ1)=>match b ρ1 with
  |none=>none
  |some (y,ρ2)=>match pk ρ2 x with
   |none=>none
   |some d=>match pk ρ2 y with
    |none=>none
    |some e=>match g d e with
     | some (.val (.bl true))=>(match c ρ2 with
      |none=>none
      |some (z,ρ3)=>match pk ρ3 y with
       |none=>none
       |some e'=>match pk ρ3 z with
        |none=>none
        |some f=>match h e' f with
         |none=>none
         |some v=>some (v.bF,ρ3))
     |some (.val (.bl false))=>some (.val (.bl false),ρ2)
     |_=>none
noncomputable def part:Option FE->Env->Option (Option Int×Env)
 |none,ρ=>some (none,ρ)
 |some f,ρ=>match f ρ with
  |some (.val (.int i),ρ1)=>some (some i,ρ1)
  |_=>none
noncomputable def eSl(a:FE)(lo hi:Option FE):FE:=fun ρ=>match a ρ with
 |none=>none
 |some (x,ρ1)=>match part lo ρ1 with
  |none=>none
  |some (l,ρ2)=>match part hi ρ2 with
   |none=>none
   |some (h,ρ3)=>match pk ρ3 x with
    |some (.lst xs)=>some (.new (.lst (cut xs l h)),ρ3)
    |_=>none
noncomputable def uz:List Dat->Option RV
 |[.int i]=>vI i
 |[.bl b]=>vI (b2i b)
 |_=>none
end Dm
open Dm(Dat FE RV FT FS)
namespace Br
open PySem L2
noncomputable def kP(p:Int×Int):List Key:=[Mx p.1,Mx p.2]
def iU(H:Hp):List Addr->List (Int×Int)->Prop
 |[],[]=>True
 |t::ts,p::ks=>H t=some (.tup [V.int p.1,V.int p.2])/\iU H ts ks
 |_,_=>False
theorem iU.mono{H H':Hp}(s:ah H H'):∀{ts:List Addr} {ks:List (Int×Int)},iU H ts ks->iU H' ts ks
 |[],[],_=>trivial
 |_::_,_::_,h=>⟨s _ _ h.1,iU.mono s h.2⟩
 |[],_::_,h=>h
 |_::_,[],h=>h
def vX(H:Hp)(x:List (List Key×V)×List Addr)(ks:List (Int×Int)):Prop:=x.1.map (·.1)=ks.map kP/\iU H x.2 ks
theorem vX.mono{H H':Hp}(s:ah H H'){x:List (List Key×V)×List Addr}{ks:List (Int×Int)}(h:vX H x ks):vX H' x ks:=⟨h.1,h.2.mono s⟩
mutual
inductive Rep(H:Hp):V->Dat->Prop
 |non:Rep H V.non Dat.non
 |bl (b:Bool):Rep H (V.bl b) (Dat.bl b)
 |int (i:Int):Rep H (V.int i) (Dat.int i)
 |str (s:List Nat):Rep H (V.str ⟨s.toArray⟩) (Dat.str s)
 |tup {a:Addr} {xs:List V} {ds:List Dat}:H a=some (.tup xs)->av H xs ds->Rep H (V.ref a) (Dat.tup ds)
 |lst {a:Addr} {xs:List V} {ds:List Dat}:Rd H a (.lst xs)->av H xs ds->Rep H (V.ref a) (Dat.lst ds)
 |dct {a:Addr} {kvs:List (Key×V)} {ks:List Int} {ds:List Dat}:H a=some (.dK kvs)->kvs.map (·.1)=ks.map Mx->av H (kvs.map (·.2)) ds->Rep H (V.ref a) (Dat.dct ks ds)
 |dcp {a:Addr} {x:List (List Key×V)×List Addr} {ks:List (Int×Int)} {ds:List Dat}:H a=some (.dT x.1 x.2)->vX H x ks->av H (x.1.map (·.2)) ds->Rep H (V.ref a) (Dat.dcp ks ds)
 |exc {a:Addr} {C:Nat} {o:Obj}:H a=some (.frz o (.ext fun h=>∃o,h.get? a=some o/\o.cls=.ref C/\∃vs,o.data=.fields vs/\vs[2]?=some .none))->Rep H (V.ref a) (Dat.exc C)
 |eW {a d:Addr} {C:Nat} {v:Int}:H a=some (.ext fun h=>∃o,h.get? a=some o/\o.cls=.ref C/\o.dict=some d/\∀c,o.data≠.cls c)->H d=some (.xd [("moment",.int v)])->Rep H (V.ref a) (Dat.eW C v)
 |fn (a:Addr):Rep H (V.ref a) (Dat.fn a)
inductive av(H:Hp):List V->List Dat->Prop
 |nil:av H [] []
 |cons {v:V} {d:Dat} {vs:List V} {ds:List Dat}:Rep H v d->av H vs ds->av H (v::vs) (d::ds)
end
theorem ah.rd{H H':Hp}(s:ah H H'){a:Addr}{u:HO}(h:Rd H a u):Rd H' a u:=by
 rcases h with h | ⟨o,h⟩
 ·exact .inl (s _ _ h)
 ·exact .inr ⟨o,s _ _ h⟩
mutual
theorem Rep.mono{H H':Hp}(s:ah H H'):∀{v:V} {d:Dat},Rep H v d->Rep H' v d
 |_,_,.non=>.non
 |_,_,.bl b=>.bl b
 |_,_,.int i=>.int i
 |_,_,.str x=>.str x
 |_,_,.tup h r=>.tup (s _ _ h) (av.mono s r)
 |_,_,.lst h r=>.lst (ah.rd s h) (av.mono s r)
 |_,_,.dct h e r=>.dct (s _ _ h) e (av.mono s r)
 |_,_,.dcp h e r=>.dcp (s _ _ h) (e.mono s) (av.mono s r)
 |_,_,.exc h=>.exc (s _ _ h)
 |_,_,.eW h k=>.eW (s _ _ h) (s _ _ k)
 |_,_,.fn a=>.fn a
theorem av.mono{H H':Hp}(s:ah H H'):∀{vs:List V} {ds:List Dat},av H vs ds->av H' vs ds
 |_,_,.nil=>.nil
 |_,_,.cons h r=>.cons (Rep.mono s h) (av.mono s r)
end
section
variable{ρ:Dm.Env}{H0 H:Hp}{d:Dat}{σ:St}{a:Addr}{x:Dm.Val}{v:V}{X:Cx}{t t':TS}{p:Addr}{e:Expr}{o:HO}
theorem av.length{H:Hp}:∀{vs:List V} {ds:List Dat},av H vs ds->vs.length=ds.length
 |_,_,.nil=>rfl
 |_,_,.cons _ r=>by simp[av.length r]
theorem av.get{H:Hp}:∀{vs:List V} {ds:List Dat} {i:Nat} {d:Dat},av H vs ds->ds[i]?=some d->∃v,vs[i]?=some v/\Rep H v d
 |_,_,_,_,.nil,e=>by simp at e
 |_,_,0,_,.cons h _,e=>by simp at e;subst e;exact⟨_,rfl,h⟩
 |_,_,i+1,_,.cons _ r,e=>by obtain⟨v,h1,h2⟩:=av.get (i:=i) r (by simpa using e);exact⟨v,by simpa using h1,h2⟩
theorem av.GL{H:Hp}:∀{vs:List V} {ds:List Dat} {i:Nat} {v:V},av H vs ds->vs[i]?=some v->∃d,ds[i]?=some d/\Rep H v d
 |_,_,_,_,.nil,e=>by simp at e
 |_,_,0,_,.cons h _,e=>by simp at e;subst e;exact⟨_,rfl,h⟩
 |_,_,i+1,_,.cons _ r,e=>by obtain⟨v,h1,h2⟩:=av.GL (i:=i) r (by simpa using e);exact⟨v,by simpa using h1,h2⟩
theorem av.append{H:Hp}:∀{vs ws:List V} {ds es:List Dat},av H vs ds->av H ws es->av H (vs++ws) (ds++es)
 |_,_,_,_,.nil,s=>s
 |_,_,_,_,.cons h r,s=>.cons h (av.append r s)
theorem av.take{H:Hp}:∀{vs:List V} {ds:List Dat} (n:Nat),av H vs ds->av H (vs.take n) (ds.take n)
 |_,_,0,_=>by simpa using av.nil
 |_,_,_+1,.nil=>by simpa using av.nil
 |_,_,n+1,.cons h r=>by simpa using av.cons h (av.take n r)
theorem av.drop{H:Hp}:∀{vs:List V} {ds:List Dat} (n:Nat),av H vs ds->av H (vs.drop n) (ds.drop n)
 |_,_,0,r=>by simpa using r
 |_,_,_+1,.nil=>by simpa using av.nil
 |_,_,n+1,.cons _ r=>by simpa using av.drop n r
theorem av.set{H:Hp}(h:Rep H v d):∀{vs:List V} {ds:List Dat} (i:Nat),av H vs ds->av H (vs.set i v) (ds.set i d)
 |_,_,_,.nil=>.nil
 |_,_,0,.cons _ r=>.cons h r
 |_,_,i+1,.cons q r=>.cons q (av.set h i r)
theorem av.rep{H:Hp}{vs:List V}{ds:List Dat}(r:av H vs ds):∀k:Nat,av H (Dk k vs).flatten (Dk k ds).flatten
 |0=>by simpa using av.nil
 |k+1=>by rw[LU,LU,Mh,Mh];exact av.append r (av.rep r k)
def Own(H0 H:Hp)(a:Addr):Dat->Prop
 |.lst ds=>∃xs,H a=some (.lst xs)/\av H0 xs ds
 |.dct ks ds=>∃kvs:List (Key×V),H a=some (.dK kvs)/\kvs.map (·.1)=ks.map Mx/\av H0 (kvs.map (·.2)) ds
 |.dcp ks ds=>∃x:List (List Key×V)×List Addr,H a=some (.dT x.1 x.2)/\vX H0 x ks/\av H0 (x.1.map (·.2)) ds
 |_=>False
theorem Own.some(h:Own H0 H a d):∃o,H a=some o:=by
 cases d with
 |lst ds=>obtain⟨xs,e,_⟩:=h;exact⟨_,e⟩
 |dct ks ds=>obtain⟨xs,e,_⟩:=h;exact⟨_,e⟩
 |dcp ks ds=>obtain⟨xs,e,_⟩:=h;exact⟨_,e⟩
 |_=>exact K9 h
theorem Own.mono{H0 H H0' H':Hp}(h:Own H0 H a d)(s:ah H0 H0')(e:H' a=H a):Own H0' H' a d:=by
 cases d with
 |lst ds=>obtain⟨xs,q,r⟩:=h;exact⟨xs,by rw[e];exact q,r.mono s⟩
 |dct ks ds=>obtain⟨xs,q,k,r⟩:=h;exact⟨xs,by rw[e];exact q,k,r.mono s⟩
 |dcp ks ds=>obtain⟨xs,q,k,r⟩:=h;exact⟨xs,by rw[e];exact q,k.mono s,r.mono s⟩
 |_=>exact K9 h
def jO(H0 H:Hp)(v:V)(d:Dat):Prop:=Rep H0 v d\/∃a,v=V.ref a/\Own H0 H a d
inductive lT(H0 H:Hp):List V->List Dat->Prop
 |nil:lT H0 H [] []
 |cons {v:V} {d:Dat} {vs:List V} {ds:List Dat}:jO H0 H v d->lT H0 H vs ds->lT H0 H (v::vs) (d::ds)
noncomputable def shr(H0 H:Hp)(a:Addr):Hp:=fun b=>if b=a then H a else H0 b
theorem cM:shr H0 H a a=H a:=by unfold shr;rw[if_pos rfl]
theorem gw{a b:Addr}(h:b≠a):shr H0 H a b=H0 b:=by unfold shr;rw[if_neg h]
theorem dN(h:H0 a=none):ah H0 (shr H0 H a):=fun b o e=>by
 by_cases q:b=a
 ·subst q;rw[h]at e;cases e
 ·rw[gw q];exact e
theorem sj(s:ah H0 H):ah (shr H0 H a) H:=fun b o e=>by
 by_cases q:b=a
 ·subst q;rw[cM]at e;exact e
 ·rw[gw q]at e;exact s _ _ e
theorem Own.rep(h:Own H0 H a d)(n:H0 a=none):Rep (shr H0 H a) (V.ref a) d:=by
 cases d with
 |lst ds=>obtain⟨xs,q,r⟩:=h;exact .lst (.inl (by rw[cM];exact q)) (r.mono (dN n))
 |dct ks ds=>obtain⟨xs,q,k,r⟩:=h;exact .dct (by rw[cM];exact q) k (r.mono (dN n))
 |dcp ks ds=>obtain⟨xs,q,k,r⟩:=h;exact .dcp (by rw[cM];exact q) (k.mono (dN n)) (r.mono (dN n))
 |_=>exact K9 h
def ai(σ:St)(ρ:Dm.Env)(a:Addr):Prop:=∃(i:Nat) (d:Dat),ρ[i]?=some (Dm.Cell.ow d)/\σ[i]?=some (some (V.ref a))
noncomputable abbrev Def(_:Dm.Env)(_:Nat):Prop:=True
structure ak(H0 H:Hp)(σ:St)(ρ:Dm.Env):Prop where
 same:ah H0 H
 len:σ.length=ρ.length
 sh:∀(i:Nat) (d:Dat),ρ[i]?=some (Dm.Cell.sh d)->∃v,σ[i]?=some (some v)/\Rep H0 v d
 ow:∀(i:Nat) (d:Dat),ρ[i]?=some (Dm.Cell.ow d)->∃a,σ[i]?=some (some (V.ref a))/\H0 a=none/\Own H0 H a d
 dis:∀(i j:Nat) (d e:Dat) (a:Addr),ρ[i]?=some (Dm.Cell.ow d)->ρ[j]?=some (Dm.Cell.ow e)->σ[i]?=some (some (V.ref a))->σ[j]?=some (some (V.ref a))->i=j
structure Stp(O:Addr->Prop)(H0 H H0' H':Hp):Prop where
 s0:ah H0 H0'
 s1:∀a o,H a=some o->¬O a->H' a=some o
 s2:∀a o,H0' a=some o->H a=none\/H0 a=some o\/O a
 s3:∀a o,H a=some o->∃o',H' a=some o'
theorem Stp.refl(O:Addr->Prop)(H0 H:Hp):Stp O H0 H H0 H:=⟨ah.refl _,fun _ _ e _=>e,fun _ _ e=>.inr (.inl e),fun _ o e=>⟨o,e⟩⟩
theorem Stp.gone{O:Addr->Prop}{H0 H H0' H':Hp}(t:Stp O H0 H H0' H')(h:H' a=none):H a=none:=by
 cases q:H a with
 |none=>rfl
 |some o=>obtain⟨o',e⟩:=t.s3 a o q;rw[h]at e;cases e
theorem Stp.trans{O1 O2:Addr->Prop}{H0 H H1 H' H2 H'':Hp}(t:Stp O1 H0 H H1 H')(u:Stp O2 H1 H' H2 H'')(k:∀a,O2 a->O1 a\/H a=none):Stp O1 H0 H H2 H'' where
 s0:=t.s0.trans u.s0
 s1:=fun a o e n=>u.s1 a o (t.s1 a o e n) fun z=>(k a z).elim n fun q=>by rw[q]at e;cases e
 s2:=fun a o e=>by
  rcases u.s2 a o e with q | q | q
  ·exact .inl (t.gone q)
  ·exact t.s2 a o q
  ·rcases k a q with z | z
   ·exact .inr (.inr z)
   ·exact .inl z
 s3:=fun a o e=>by obtain⟨o',e'⟩:=t.s3 a o e;exact u.s3 a o' e'
theorem Stp.wide{O O':Addr->Prop}{H0 H H0' H':Hp}(t:Stp O H0 H H0' H')(k:∀a,O a->O' a):Stp O' H0 H H0' H':=
 ⟨t.s0,fun a o e n=>t.s1 a o e fun z=>n (k a z),fun a o e=>(t.s2 a o e).imp id (Or.imp id (k a)),t.s3⟩
structure aJ(H0 H H0' H':Hp):Prop where
 s0:ah H0 H0'
 s1:ah H H'
 s2:∀a o,H0' a=some o->H a=none\/H0 a=some o
 s3:ah H0' H'
theorem aJ.refl(s:ah H0 H):aJ H0 H H0 H:=⟨ah.refl _,ah.refl _,fun _ _ e=>.inr e,s⟩
theorem aJ.stp{H0 H H0' H':Hp}(g:aJ H0 H H0' H')(O:Addr->Prop):Stp O H0 H H0' H':=
 ⟨g.s0,fun a o e _=>g.s1 a o e,fun a o e=>(g.s2 a o e).imp id .inl,fun a o e=>⟨o,g.s1 a o e⟩⟩
theorem aJ.zA(s:ah H0 H)(n:H p=none):aJ H0 H (upd H0 p o) (upd H p o) where
 s0:=fun b u e=>by rw[af (au e (s.free n))];exact e
 s1:=fun b u e=>by rw[af (au e n)];exact e
 s2:=fun b u e=>by
  by_cases q:b=p
  ·subst q;exact .inl n
  ·rw[af q]at e;exact .inr e
 s3:=fun b u e=>by
  by_cases q:b=p
  ·subst q;rw[aq]at e ⊢;exact e
  ·rw[af q]at e ⊢;exact s _ _ e
theorem aJ.lu(s:ah H0 H)(n:H p=none):aJ H0 H H0 (upd H p o) where
 s0:=ah.refl _
 s1:=fun b u e=>by rw[af (au e n)];exact e
 s2:=fun b u e=>.inr e
 s3:=fun b u e=>by rw[af (au (s _ _ e) n)];exact s _ _ e
def eO(Hs H0 H:Hp)(σ:St)(ρ:Dm.Env)(v:V):Dm.Val->Prop
 |.val d=>Rep H0 v d
 |.slot i=>σ[i]?=some (some v)/\Def ρ i
 |.new d=>∃a,v=V.ref a/\Hs a=none/\¬ai σ ρ a/\H0 a=none/\Own H0 H a d
structure ESt(σ:St)(ρ:Dm.Env)(H0 H:Hp)(ρ':Dm.Env)(H0' H':Hp):Prop where
 st:ak H0' H' σ ρ'
 stp:Stp (ai σ ρ) H0 H H0' H'
 own:∀a,ai σ ρ' a->ai σ ρ a
 dfn:∀i,Def ρ i->Def ρ' i
theorem ESt.refl(st:ak H0 H σ ρ):ESt σ ρ H0 H ρ H0 H:=⟨st,Stp.refl _ _ _,fun _ z=>z,fun _ z=>z⟩
theorem ESt.trans{ρ ρ1 ρ2:Dm.Env}{H0 H H1 H' H2 H'':Hp}(t:ESt σ ρ H0 H ρ1 H1 H')(u:ESt σ ρ1 H1 H' ρ2 H2 H''):ESt σ ρ H0 H ρ2 H2 H'':=
 ⟨u.st,t.stp.trans u.stp fun a z=>.inl (t.own a z),fun a z=>t.own a (u.own a z),fun i z=>u.dfn i (t.dfn i z)⟩
theorem ak.grow{H0 H H0' H':Hp}(st:ak H0 H σ ρ)(g:aJ H0 H H0' H'):ak H0' H' σ ρ where
 same:=g.s3
 len:=st.len
 sh:=fun i d e=>by obtain⟨v,q,r⟩:=st.sh i d e;exact⟨v,q,r.mono g.s0⟩
 ow:=fun i d e=>by
  obtain⟨a,q,n,w⟩:=st.ow i d e;obtain⟨o,z⟩:=w.some;refine⟨a,q,?_,w.mono g.s0 ((g.s1 a o z).trans z.symm)⟩;cases y:H0' a with
  |none=>rfl
  |some u=>
   rcases g.s2 a u y with k | k
   ·rw[z]at k;cases k
   ·rw[n]at k;cases k
 dis:=st.dis
theorem ESt.grow{H0 H H0' H':Hp}(st:ak H0 H σ ρ)(g:aJ H0 H H0' H'):ESt σ ρ H0 H ρ H0' H':=
 ⟨st.grow g,g.stp _,fun _ z=>z,fun _ z=>z⟩
theorem eO.mono{Hs H0 H H0' H':Hp}{ρ ρ':Dm.Env}(r:eO Hs H0 H σ ρ v x)(t:ESt σ ρ H0 H ρ' H0' H'):eO Hs H0' H' σ ρ' v x:=by
 cases x with
 |val d=>exact Rep.mono t.stp.s0 r
 |slot i=>exact⟨r.1,t.dfn i r.2⟩
 |new d=>
  obtain⟨a,e,n,no,n0,w⟩:=r;obtain⟨o,z⟩:=w.some;refine⟨a,e,n,fun y=>no (t.own a y),?_,w.mono t.stp.s0 ((t.stp.s1 a o z no).trans z.symm)⟩;cases y:H0' a with
  |none=>rfl
  |some u=>
   rcases t.stp.s2 a u y with k | k | k
   ·rw[z]at k;cases k
   ·rw[n0]at k;cases k
   ·exact absurd k no
theorem eO.early{Hs Hs' H0 H:Hp}(r:eO Hs H0 H σ ρ v x)(k:∀a,Hs a=none->Hs' a=none):eO Hs' H0 H σ ρ v x:=by
 cases x with
 |val d=>exact r
 |slot i=>exact r
 |new d=>obtain⟨a,e,n,z⟩:=r;exact⟨a,e,k a n,z⟩
theorem eO.look{Hs H0 H:Hp}(r:eO Hs H0 H σ ρ v x)(st:ak H0 H σ ρ)(e:Dm.pk ρ x=some d):jO H0 H v d:=by
 cases x with
 |val d'=>cases e;exact .inl r
 |new d'=>cases e;obtain⟨a,e,_,_,_,w⟩:=r;exact .inr ⟨a,e,w⟩
 |slot i=>
  obtain⟨q,_⟩:=r;unfold Dm.pk at e;dsimp only at e;split at e
  ·rename_i d' h;cases e;obtain⟨a,z,_,w⟩:=st.ow i d h;rw[q]at z;cases z;exact .inr ⟨a,rfl,w⟩
  ·rename_i d' h;cases e;obtain⟨u,z,w⟩:=st.sh i d h;rw[q]at z;cases z;exact .inl w
  ·cases e
def pB(Hs H0 H:Hp)(v:V):RV->Prop
 |.val d=>Rep H0 v d
 |.new d=>∃a,v=V.ref a/\Hs a=none/\H0 a=none/\Own H0 H a d
theorem pB.toV{H H0' H' H0:Hp}{z:RV}(r:pB H H0' H' v z)(st:ak H0 H σ ρ):eO H H0' H' σ ρ v z.bF:=by
 cases z with
 |val d=>exact r
 |new d=>obtain⟨a,e,n,n0,w⟩:=r;refine⟨a,e,n,fun⟨i,d',h1,h2⟩=>?_,n0,w⟩;obtain⟨a',q,_,w'⟩:=st.ow i d' h1;rw[h2]at q;cases q;obtain⟨o,z⟩:=w'.some;rw[n]at z;cases z
def tD(f:FE):TE:=fun σ H Q=>∃H0 ρ x ρ',ak H0 H σ ρ/\f ρ=some (x,ρ')/\∀v H0' H',ESt σ ρ H0 H ρ' H0' H'->eO H H0' H' σ ρ' v x->Q v H'
def tDT(f:FT):TT:=fun σ H Q=>∃H0 ρ b ρ',ak H0 H σ ρ/\f ρ=some (b,ρ')/\∀H0' H',ESt σ ρ H0 H ρ' H0' H'->Q b H'
inductive br(Hs H0 H:Hp)(σ:St)(ρ:Dm.Env):List V->List Dm.Val->Prop
 |nil:br Hs H0 H σ ρ [] []
 |cons {v:V} {x:Dm.Val} {vs:List V} {xs:List Dm.Val}:eO Hs H0 H σ ρ v x->br Hs H0 H σ ρ vs xs->br Hs H0 H σ ρ (v::vs) (x::xs)
def tDA(fs:List FE):TA:=fun σ H Q=>∃H0 ρ xs ρ',ak H0 H σ ρ/\Dm.eAs fs ρ=some (xs,ρ')/\∀vs H0' H',ESt σ ρ H0 H ρ' H0' H'->br H H0' H' σ ρ' vs xs->Q vs H'
noncomputable abbrev DE(X:Cx)(e:Expr)(f:FE):Prop:=PE X e (tD f)
noncomputable abbrev DT(X:Cx)(e:Expr)(f:FT):Prop:=PT X e (tDT f)
noncomputable abbrev DA(X:Cx)(es:List Expr)(fs:List FE):Prop:=PA X es (tDA fs)
theorem PE.weak{t t':TE}(h:PE X e t)(k:∀σ H Q,t' σ H Q->t σ H Q):PE X e t':=fun jn s σ H Q I q=>h jn s σ H Q I (k σ H Q q)
theorem PT.weak{t t':TT}(h:PT X e t)(k:∀σ H Q,t' σ H Q->t σ H Q):PT X e t':=fun jn s σ H Q I q=>h jn s σ H Q I (k σ H Q q)
theorem PA.weak{es:List Expr}{t t':TA}(h:PA X es t)(k:∀σ H Q,t' σ H Q->t σ H Q):PA X es t':=fun pos jn s σ H Q I q=>h pos jn s σ H Q I (k σ H Q q)
theorem PS.weak{st:Stmt}(h:PS X st t)(k:∀D σ H,t' D σ H->t D σ H):PS X st t':=fun jn s σ H D I q=>h jn s σ H D I (k D σ H q)
theorem PSs.weak{st:List Stmt}(h:PSs X st t)(k:∀D σ H,t' D σ H->t D σ H):PSs X st t':=fun jn s σ H D I q=>h jn s σ H D I (k D σ H q)
theorem b9(s:ah H0 H):ah H0 (shr H0 H a):=fun b o e=>by
 by_cases q:b=a
 ·subst q;rw[cM];exact s _ _ e
 ·rw[gw q];exact e
theorem Own.zB{H0 H0c H:Hp}(h:Own H0 H a d)(b:ah H0 H0c)(s:ah H0c H):Rep (shr H0c H a) (V.ref a) d:=by
 cases d with
 |lst ds=>obtain⟨xs,q,r⟩:=h;exact .lst (.inl (by rw[cM];exact q)) (r.mono (b.trans (b9 s)))
 |dct ks ds=>obtain⟨xs,q,k,r⟩:=h;exact .dct (by rw[cM];exact q) k (r.mono (b.trans (b9 s)))
 |dcp ks ds=>obtain⟨xs,q,k,r⟩:=h;exact .dcp (by rw[cM];exact q) (k.mono (b.trans (b9 s))) (r.mono (b.trans (b9 s)))
 |_=>exact K9 h
theorem eO.rho{Hs H0 H:Hp}{ρ ρ':Dm.Env}(r:eO Hs H0 H σ ρ v x)(o:∀a,ai σ ρ' a->ai σ ρ a)(d:∀i,Def ρ i->Def ρ' i):eO Hs H0 H σ ρ' v x:=by
 cases x with
 |val d=>exact r
 |slot i=>exact⟨r.1,d i r.2⟩
 |new d=>obtain⟨a,e,n,no,z⟩:=r;exact⟨a,e,n,fun y=>no (o a y),z⟩
theorem br.rho{Hs H0 H:Hp}{ρ ρ':Dm.Env}(o:∀a,ai σ ρ' a->ai σ ρ a)(d:∀i,Def ρ i->Def ρ' i):∀{vs:List V} {xs:List Dm.Val},br Hs H0 H σ ρ vs xs->br Hs H0 H σ ρ' vs xs
 |_,_,.nil=>.nil
 |_,_,.cons h r=>.cons (h.rho o d) (br.rho o d r)
theorem br.early{Hs Hs' H0 H:Hp}(k:∀a,Hs a=none->Hs' a=none):∀{vs:List V} {xs:List Dm.Val},br Hs H0 H σ ρ vs xs->br Hs' H0 H σ ρ vs xs
 |_,_,.nil=>.nil
 |_,_,.cons h r=>.cons (h.early k) (br.early k r)
theorem aQ{i j:Nat}{c d:Dm.Cell}(h:(ρ.set i c)[j]?=some d):(j=i/\d=c)\/(j≠i/\ρ[j]?=some d):=by
 by_cases e:j=i
 ·subst e;by_cases l:j<ρ.length
  ·rw[KW l]at h;exact .inl ⟨rfl,(Option.some.inj h).symm⟩
  ·rw[LX (by simpa using MB.mp l)]at h;cases h
 ·rw[gc (Lg e)]at h;exact .inr ⟨e,h⟩
theorem qK{i:Nat}(st:ak H0 H σ ρ)(e:ρ[i]?=some (.ow d))(q:σ[i]?=some (some (V.ref a))) :
  ak (shr H0 H a) H σ (ρ.set i (.sh d))/\(∀b,ai σ (ρ.set i (.sh d)) b->ai σ ρ b)/\∀j,Def ρ j->Def (ρ.set i (.sh d)) j:=by
 obtain⟨a',q',n,w⟩:=st.ow i d e;rw[q]at q';cases q';have hil:i<ρ.length:=(pe.mp e).1;refine⟨⟨sj st.same,by rw[K8];exact st.len,fun j d' h=>?_,fun j d' h=>?_,fun j k d1 d2 b h1 h2 h3 h4=>?_⟩,fun b ⟨j,d',h1,h2⟩=>?_,fun j h=>?_⟩
 ·rcases aQ h with⟨rfl,z⟩ | ⟨_,h⟩
  ·cases z;exact⟨_,q,w.rep n⟩
  ·obtain⟨v,z,r⟩:=st.sh j d' h;exact⟨v,z,r.mono (dN n)⟩
 ·rcases aQ h with⟨_,z⟩ | ⟨hj,h⟩
  ·cases z
  ·obtain⟨b,z,n',w'⟩:=st.ow j d' h;have nb:b≠a:=fun y=>hj (st.dis j i d' d a h e (y▸z) q);exact⟨b,z,by rw[gw nb];exact n',w'.mono (dN n) rfl⟩
 ·rcases aQ h1 with⟨_,z⟩ | ⟨_,h1⟩
  ·cases z
  ·rcases aQ h2 with⟨_,z⟩ | ⟨_,h2⟩
   ·cases z
   ·exact st.dis j k d1 d2 b h1 h2 h3 h4
 ·rcases aQ h1 with⟨_,z⟩ | ⟨_,h1⟩
  ·cases z
  ·exact⟨j,d',h1,h2⟩
 ·trivial
theorem uA(st:ak H0 H σ ρ)(no:¬ai σ ρ a):ak (shr H0 H a) H σ ρ where
 same:=sj st.same
 len:=st.len
 sh:=fun j d h=>by obtain⟨v,z,r⟩:=st.sh j d h;exact⟨v,z,r.mono (b9 st.same)⟩
 ow:=fun j d h=>by obtain⟨b,z,n',w'⟩:=st.ow j d h;have nb:b≠a:=fun y=>no ⟨j,d,h,y▸z⟩;exact⟨b,z,by rw[gw nb];exact n',w'.mono (b9 st.same) rfl⟩
 dis:=st.dis
theorem take1{Hs H0s H0 H0c H:Hp}{ρs ρ ρ':Dm.Env}(t:ESt σ ρs H0s Hs ρ H0c H)(b:ah H0 H0c)(r:eO Hs H0 H σ ρ v x)(e:Dm.tk ρ x=some (d,ρ')) :
  ∃qL,ESt σ ρs H0s Hs ρ' qL H/\ah H0c qL/\Rep qL v d/\(∀a,ai σ ρ' a->ai σ ρ a)/\∀i,Def ρ i->Def ρ' i:=by
 cases x with
 |val d'=>cases e;exact⟨H0c,t,ah.refl _,Rep.mono b r,fun _ z=>z,fun _ z=>z⟩
 |new d'=>
  cases e;obtain⟨a,e,n,no,n0,w⟩:=r;subst e;have ss:=b9 (a:=a) t.st.same;refine⟨shr H0c H a,⟨uA t.st no,⟨t.stp.s0.trans ss,t.stp.s1,fun c o q=>?_,t.stp.s3⟩,t.own,t.dfn⟩,ss,w.zB b t.st.same,fun _ z=>z,fun _ z=>z⟩;by_cases y:c=a
  ·subst y;exact .inl n
  ·rw[gw y]at q;exact t.stp.s2 c o q
 |slot i=>
  obtain⟨q,_⟩:=r;unfold Dm.tk at e;dsimp only at e;split at e
  ·rename_i d' h;cases e;obtain⟨a,z,n,w⟩:=t.st.ow i _ h;rw[q]at z;cases z;obtain⟨s1,s2,s3⟩:=qK t.st h q;have ss:=b9 (a:=a) t.st.same;refine⟨shr H0c H a,⟨s1,⟨t.stp.s0.trans ss,t.stp.s1,fun c o q'=>?_,t.stp.s3⟩,fun b z=>t.own b (s2 b z),fun j z=>s3 j (t.dfn j z)⟩,ss,w.zB (ah.refl _) t.st.same,s2,s3⟩;by_cases y:c=a
   ·subst y;exact .inr (.inr (t.own c ⟨i,_,h,q⟩))
   ·rw[gw y]at q';exact t.stp.s2 c o q'
  ·rename_i d' h;cases e;obtain⟨u,z,w⟩:=t.st.sh i _ h;rw[q]at z;cases z;exact⟨H0c,t,ah.refl _,w,fun _ z=>z,fun _ z=>z⟩
  ·cases e
theorem takes{Hs H0s H0 H:Hp}{ρs:Dm.Env}:∀{xs:List Dm.Val} {vs:List V} {ρ ρ':Dm.Env} {ds:List Dat} {H0c:Hp},ESt σ ρs H0s Hs ρ H0c H->ah H0 H0c->br Hs H0 H σ ρ vs xs->Dm.tks ρ xs=some (ds,ρ') ->
  ∃qL,ESt σ ρs H0s Hs ρ' qL H/\ah H0c qL/\av qL vs ds
 |[],_,ρ,ρ',ds,H0c,t,b,r,e=>by cases r;cases e;exact⟨H0c,t,ah.refl _,.nil⟩
 |x::xs,_,ρ,ρ',ds,H0c,t,b,r,e=>by
  cases r with
  |cons h r=>
   unfold Dm.tks at e;split at e
   ·cases e
   ·rename_i d ρ1 e1;split at e
    ·cases e
    ·rename_i ds' ρ2 e2;cases e;obtain⟨H1,t1,b1,r1,o1,d1⟩:=take1 t b h e1;obtain⟨H2,t2,b2,r2⟩:=takes t1 (b.trans b1) (r.rho o1 d1) e2;exact⟨H2,t2,b1.trans b2,.cons (r1.mono b2) r2⟩
theorem GN{ρ ρ':Dm.Env}(e:Dm.tk ρ x=some (d,ρ'))(y:Dm.Val):Dm.pk ρ' y=Dm.pk ρ y:=by
 cases x with
 |val d'=>cases e;rfl
 |new d'=>cases e;rfl
 |slot i=>
  unfold Dm.tk at e;dsimp only at e;split at e
  ·rename_i d' h;cases e;cases y with
   |val _=>rfl
   |new _=>rfl
   |slot j=>
    unfold Dm.pk;dsimp only;by_cases z:j=i
    ·subst z;rw[KW (pe.mp h).1,h]
    ·rw[gc (Lg z)]
  ·cases e;rfl
  ·cases e
theorem vY(e:Dm.pk ρ x=some d):∃ρ',Dm.tk ρ x=some (d,ρ'):=by
 cases x with
 |val d'=>cases e;exact⟨ρ,rfl⟩
 |new d'=>cases e;exact⟨ρ,rfl⟩
 |slot i=>
  unfold Dm.pk at e;dsimp only at e;unfold Dm.tk;dsimp only;split at e
  ·rename_i d' h;cases e;exact⟨_,rfl⟩
  ·rename_i d' h;cases e;exact⟨_,rfl⟩
  ·cases e
theorem jP:∀{xs:List Dm.Val} {ρ:Dm.Env} {ds:List Dat},Dm.pks ρ xs=some ds->∃ρ',Dm.tks ρ xs=some (ds,ρ')
 |[],ρ,ds,e=>by cases e;exact⟨ρ,rfl⟩
 |x::xs,ρ,ds,e=>by
  unfold Dm.pks at e;split at e
  ·cases e
  ·rename_i d e1;split at e
   ·cases e
   ·rename_i ds' e2;cases e;obtain⟨ρ1,h1⟩:=vY e1;have key:∀ys:List Dm.Val,Dm.pks ρ1 ys=Dm.pks ρ ys:=fun ys=>by
     induction ys with
     |nil=>rfl
     |cons y ys ih=>unfold Dm.pks;rw[GN h1 y,ih]
    obtain⟨ρ2,h2⟩:=jP (xs:=xs) (ρ:=ρ1) (ds:=ds') (by rw[key];exact e2);exact⟨ρ2,by unfold Dm.tks;rw[h1];dsimp only;rw[h2]⟩
theorem looks{Hs H0 H:Hp}(st:ak H0 H σ ρ):∀{xs:List Dm.Val} {vs:List V} {ds:List Dat},br Hs H0 H σ ρ vs xs->Dm.pks ρ xs=some ds->lT H0 H vs ds
 |[],_,ds,r,e=>by cases r;cases e;exact .nil
 |x::xs,_,ds,r,e=>by
  cases r with
  |cons h r=>
   unfold Dm.pks at e;split at e
   ·cases e
   ·rename_i d e1;split at e
    ·cases e
    ·rename_i ds' e2;cases e;exact .cons (h.look st e1) (looks st r e2)
def OpD(r:R2)(g:Dat->Dat->Option RV):Prop:=∀(H0 H:Hp) (x y:V) (dx dy:Dat) (z:RV) (Q:VK),ah H0 H->jO H0 H x dx->jO H0 H y dy->g dx dy=some z ->
 (∀v H0' H',aJ H0 H H0' H'->pB H H0' H' v z->Q v H')->r x y H Q
def UnD(r:V->Hp->VK->Prop)(g:Dat->Option RV):Prop:=∀(H0 H:Hp) (x:V) (dx:Dat) (z:RV) (Q:VK),ah H0 H->jO H0 H x dx->g dx=some z ->
 (∀v H0' H',aJ H0 H H0' H'->pB H H0' H' v z->Q v H')->r x H Q
def CallD(r:List V->Hp->VK->Prop)(g:List Dat->Option RV):Prop:=∀(H0 H:Hp) (vs:List V) (ds:List Dat) (z:RV) (Q:VK),ah H0 H->lT H0 H vs ds->g ds=some z ->
 (∀v H0' H',aJ H0 H H0' H'->pB H H0' H' v z->Q v H')->r vs H Q
def spD(f:List Dat->Option RV):Sp:=fun vs H Q _=>∃H0 ds z,ah H0 H/\av H0 vs ds/\f ds=some z/\∀v H0' H',aJ H0 H H0' H'->pB H H0' H' v z->Q v H'
end
section
variable{σ:St}{H:Hp}{Q:VK}
section
variable{fs:List FE}{d:Dat}{a b:FE}{t u:FT}{v:V}{H0:Hp}
theorem GO{i:Nat}(h:tD (Dm.eV i) σ H Q):qC i σ H Q:=by
 obtain⟨H0,ρ,x,ρ',st,e,k⟩:=h;unfold Dm.eV at e;split at e
 ·rename_i d h1;cases e;obtain⟨v,q,r⟩:=st.sh i d h1;exact⟨v,q,k v H0 H (.refl st) r⟩
 ·rename_i d h1;cases e;obtain⟨a,q,_⟩:=st.ow i d h1;exact⟨_,q,k _ H0 H (.refl st) ⟨q,trivial⟩⟩
 ·cases e
theorem nC(c:∀H0:Hp,Rep H0 v d)(h:tD (Dm.eC d) σ H Q):tC v σ H Q:=by obtain⟨H0,ρ,x,ρ',st,e,k⟩:=h;cases e;exact k v H0 H (.refl st) (c H0)
theorem zC{r:R2}{g:Dat->Dat->Option RV}{fa fb:FE}(o:OpD r g)(h:tD (Dm.e2 g fa fb) σ H Q):tOp r (tD fa) (tD fb) σ H Q:=by
 obtain⟨H0,ρ,x,ρ',st,e,k⟩:=h;unfold Dm.e2 at e;split at e
 ·cases e
 rename_i x1 ρ1 e1;split at e
 ·cases e
 rename_i y1 ρ2 e2;split at e
 ·cases e
 rename_i dx p1;split at e
 ·cases e
 rename_i dy p2;split at e
 ·cases e
 rename_i z gz;cases e;refine⟨H0,ρ,x1,ρ1,st,e1,fun v H1 Hb t1 r1=>⟨H1,ρ1,y1,_,t1.st,e2,fun u H2 Hc t2 r2=>?_⟩⟩;refine o H2 Hc v u dx dy z Q t2.st.same ((r1.mono t2).look t2.st p1) (r2.look t2.st p2) gz fun w H3 Hd g3 r3=>?_;exact k w H3 Hd (t1.trans (t2.trans (.grow t2.st g3))) ((r3.toV t2.st).early fun a n=>(t1.trans t2).stp.gone n)
theorem GP{r:V->Hp->VK->Prop}{g:Dat->Option RV}{fa:FE}(o:UnD r g)(h:tD (Dm.e1 g fa) σ H Q):tUn r (tD fa) σ H Q:=by
 obtain⟨H0,ρ,x,ρ',st,e,k⟩:=h;unfold Dm.e1 at e;split at e
 ·cases e
 rename_i x1 ρ1 e1;split at e
 ·cases e
 rename_i dx p1;split at e
 ·cases e
 rename_i z gz;cases e;refine⟨H0,ρ,x1,_,st,e1,fun v H1 Hb t1 r1=>?_⟩;refine o H1 Hb v dx z Q t1.st.same (r1.look t1.st p1) gz fun w H3 Hd g3 r3=>?_;exact k w H3 Hd (t1.trans (.grow t1.st g3)) ((r3.toV t1.st).early fun a n=>t1.stp.gone n)
theorem GQ{Q:List V->Hp->Prop}(h:tDA [] σ H Q):ur σ H Q:=by obtain⟨H0,ρ,xs,ρ',st,e,k⟩:=h;cases e;exact k [] H0 H (.refl st) .nil
theorem DZ{f:FE}{Q:List V->Hp->Prop}(h:tDA (f::fs) σ H Q):jM (tD f) (tDA fs) σ H Q:=by
 obtain⟨H0,ρ,xs,ρ',st,e,k⟩:=h;unfold Dm.eAs at e;split at e
 ·cases e
 rename_i x1 ρ1 e1;split at e
 ·cases e
 rename_i xs1 ρ2 e2;cases e;refine⟨H0,ρ,x1,ρ1,st,e1,fun v H1 Hb t1 r1=>⟨H1,ρ1,xs1,_,t1.st,e2,fun vs H2 Hc t2 r2=>?_⟩⟩;exact k (v::vs) H2 Hc (t1.trans t2) (.cons (r1.mono t2) (r2.early fun a n=>t1.stp.gone n))
theorem D0{r:List V->Hp->VK->Prop}{g:List Dat->Option RV}(o:CallD r g)(h:tD (Dm.eB g fs) σ H Q):tCB r (tDA fs) σ H Q:=by
 obtain⟨H0,ρ,x,ρ',st,e,k⟩:=h;unfold Dm.eB at e;split at e
 ·cases e
 rename_i xs ρ1 e1;split at e
 ·cases e
 rename_i ds p1;split at e
 ·cases e
 rename_i z gz;cases e;refine⟨H0,ρ,xs,_,st,e1,fun vs H1 Hb t1 r1=>?_⟩;refine o H1 Hb vs ds z Q t1.st.same (looks t1.st r1 p1) gz fun w H3 Hd g3 r3=>?_;exact k w H3 Hd (t1.trans (.grow t1.st g3)) ((r3.toV t1.st).early fun a n=>t1.stp.gone n)
theorem fM{n:Nat}(h:n<=Dm.SZ):n<=sizeLine:=Nat.le_trans h (by decide)
theorem GR(h:tD (Dm.eN fs) σ H Q):DK (tDA fs) σ H Q:=by
 obtain⟨H0,ρ,x,ρ',st,e,k⟩:=h;unfold Dm.eN at e;split at e
 ·cases e
 rename_i xs ρ1 e1;split at e
 ·cases e
 rename_i ds ρ2 e2;split at e
 ·rename_i hz;cases e;refine⟨H0,ρ,xs,ρ1,st,e1,fun vs H1 Hb t1 r1=>?_⟩;obtain⟨H2,t2,b2,r2⟩:=takes t1 (ah.refl _) r1 e2;refine⟨by rw[r2.length];exact fM hz,fun p hp=>?_⟩;have g:=aJ.zA (o:=HO.tup vs) t2.st.same hp;exact k _ _ _ (t2.trans (.grow t2.st g)) (.tup aq (r2.mono g.s0))
 ·cases e
theorem GS(h:tD (Dm.dI fs) σ H Q):GF (tDA fs) σ H Q:=by
 obtain⟨H0,ρ,x,ρ',st,e,k⟩:=h;unfold Dm.dI at e;split at e
 ·cases e
 rename_i xs ρ1 e1;split at e
 ·cases e
 rename_i ds ρ2 e2;split at e
 ·rename_i hz;cases e;refine⟨H0,ρ,xs,ρ1,st,e1,fun vs H1 Hb t1 r1=>?_⟩;obtain⟨H2,t2,b2,r2⟩:=takes t1 (ah.refl _) r1 e2;refine⟨by rw[r2.length];exact fM hz,fun p hp=>?_⟩;have g:=aJ.lu (o:=HO.lst vs) t2.st.same hp;refine k _ _ _ (t2.trans (.grow t2.st g)) ⟨p,rfl,t2.stp.gone hp,fun⟨i,d,h1,h2⟩=>?_,t2.st.same.free hp,vs,aq,r2⟩;obtain⟨a,q,_,w⟩:=t2.st.ow i d h1;rw[h2]at q;cases q;obtain⟨o,z⟩:=w.some;rw[hp]at z;cases z
 ·cases e
theorem Rep.plain{H0 H1:Hp}(r:Rep H0 v d)(n:Dm.cQ d=false):Rep H1 v d:=by
 cases r with
 |non=>exact .non
 |bl b=>exact .bl b
 |int i=>exact .int i
 |str s=>exact .str s
 |tup _ _=>cases n
 |lst _ _=>cases n
 |dct _ _ _=>cases n
 |dcp _ _ _=>cases n
 |exc _=>cases n
 |eW _ _=>cases n
 |fn a=>exact .fn a
theorem Own.box{H0 H:Hp}{a:Addr}(w:Own H0 H a d):Dm.cQ d=true:=by
 cases d with
 |lst ds=>rfl
 |dct ks ds=>rfl
 |dcp ks ds=>rfl
 |_=>exact K9 w
theorem nE{f:List Dat->Option RV}{E:XK}(h:tD (Dm.eF f fs) σ H Q):fZ (spD f) [] E (tDA fs) σ H Q:=by
 obtain⟨H0,ρ,x,ρ',st,e,k⟩:=h;unfold Dm.eF at e;split at e
 ·cases e
 rename_i xs ρ1 e1;split at e
 ·cases e
 rename_i ds p1;split at e
 ·cases e
 rename_i z fz;refine⟨H0,ρ,xs,ρ1,st,e1,fun vs H1 Hb t1 r1=>?_⟩;dsimp only;rw[K4];obtain⟨ρ2,e2⟩:=jP p1;obtain⟨H2,t2,b2,r2⟩:=takes t1 (ah.refl _) r1 e2;split at e
 ·rw[e2]at e;cases e;exact⟨H2,ds,z,t2.st.same,r2,fz,fun w H3 Hd g3 r3=>k w H3 Hd (t2.trans (.grow t2.st g3)) ((r3.toV t2.st).early fun a n=>t2.stp.gone n)⟩
 ·rename_i nb;cases e;refine⟨H2,ds,z,t2.st.same,r2,fz,fun w H3 Hd g3 r3=>?_⟩;have g:aJ H1 Hb H1 Hd:=⟨ah.refl _,g3.s1,fun a o q=>.inr q,t1.st.same.trans g3.s1⟩
  refine k w H1 Hd (t1.trans (.grow t1.st g)) ?_;cases z with
  |val d=>exact Rep.plain r3 (by simpa [RV.dat] using nb)
  |new d=>obtain⟨a,_,_,_,w⟩:=r3;exact absurd w.box (by simpa [RV.dat] using nb)
theorem Jv{t:FT}(h:tD (Dm.eIf t a b) σ H Q):tIf (tDT t) (tD a) (tD b) σ H Q:=by
 obtain⟨H0,ρ,x,ρ',st,e,k⟩:=h;unfold Dm.eIf at e;split at e
 ·cases e
 ·rename_i ρ1 e1;refine⟨H0,ρ,true,ρ1,st,e1,fun H1 Hb t1=>?_⟩;dsimp only;rw[if_pos rfl];exact⟨H1,ρ1,x,ρ',t1.st,e,fun v H2 Hc t2 r2=>k v H2 Hc (t1.trans t2) (r2.early fun a n=>t1.stp.gone n)⟩
 ·rename_i ρ1 e1;refine⟨H0,ρ,false,ρ1,st,e1,fun H1 Hb t1=>?_⟩;dsimp only;rw[if_neg K7];exact⟨H1,ρ1,x,ρ',t1.st,e,fun v H2 Hc t2 r2=>k v H2 Hc (t1.trans t2) (r2.early fun a n=>t1.stp.gone n)⟩
theorem Rep.nF{c:Bool}(r:Rep H0 v (.bl c)):v=.bl c:=by cases r;rfl
theorem Rep.isInt{c:Int}(r:Rep H0 v (.int c)):v=.int c:=by cases r;rfl
theorem GU(h:tD (Dm.iP a b) σ H Q):BI (tD a) (tD b) σ H Q:=by
 obtain⟨H0,ρ,x,ρ',st,e,k⟩:=h;unfold Dm.iP at e;split at e
 ·rename_i ρ1 e1;refine⟨H0,ρ,_,_,st,e1,fun v H1 Hb t1 r1=>⟨true,Rep.nF r1,?_⟩⟩
  try dsimp only
  rw[if_pos rfl];exact⟨H1,ρ1,x,ρ',t1.st,e,fun v H2 Hc t2 r2=>k v H2 Hc (t1.trans t2) (r2.early fun a n=>t1.stp.gone n)⟩
 ·rename_i ρ1 e1;cases e;refine⟨H0,ρ,_,_,st,e1,fun v H1 Hb t1 r1=>⟨false,Rep.nF r1,?_⟩⟩
  try dsimp only
  rw[if_neg K7];exact k _ H1 Hb t1 (Rep.bl false)
 ·cases e
theorem GV{a:FE}(h:tD (Dm.qI a) σ H Q):BJ (tD a) σ H Q:=by
 obtain⟨H0,ρ,x,ρ',st,e,k⟩:=h;unfold Dm.qI at e;split at e
 ·rename_i c ρ1 e1;cases e;exact⟨H0,ρ,_,_,st,e1,fun v H1 Hb t1 r1=>⟨c,Rep.nF r1,k _ H1 Hb t1 (Rep.bl (!c))⟩⟩
 ·cases e
variable{Qt:Bool->Hp->Prop}
theorem vZ{a:FE}(h:tDT (Dm.tV a) σ H Qt):BP (tD a) σ H Qt:=by
 obtain⟨H0,ρ,x,ρ',st,e,k⟩:=h;unfold Dm.tV at e;split at e
 ·rename_i c ρ1 e1;cases e;exact⟨H0,ρ,_,_,st,e1,fun v H1 Hb t1 r1=>⟨_,Rep.nF r1,k H1 Hb t1⟩⟩
 ·cases e
theorem D3{t:FT}(h:tDT (Dm.dg t) σ H Qt):dg (tDT t) σ H Qt:=by
 obtain⟨H0,ρ,x,ρ',st,e,k⟩:=h;unfold Dm.dg at e;split at e
 ·rename_i c ρ1 e1;cases e;exact⟨H0,ρ,_,_,st,e1,fun H1 Hb t1=>k H1 Hb t1⟩
 ·cases e
theorem D4(h:tDT (Dm.lg t u) σ H Qt):lg (tDT t) (tDT u) σ H Qt:=by
 obtain⟨H0,ρ,x,ρ',st,e,k⟩:=h;unfold Dm.lg at e;split at e
 ·rename_i ρ1 e1;refine⟨H0,ρ,_,ρ1,st,e1,fun H1 Hb t1=>?_⟩;dsimp only;rw[if_pos rfl];exact⟨H1,ρ1,x,ρ',t1.st,e,fun H2 Hc t2=>k H2 Hc (t1.trans t2)⟩
 ·rename_i ρ1 e1;cases e;refine⟨H0,ρ,_,_,st,e1,fun H1 Hb t1=>?_⟩;dsimp only;rw[if_neg K7];exact k H1 Hb t1
 ·cases e
theorem GW(h:tDT (Dm.tOr t u) σ H Qt):tOr (tDT t) (tDT u) σ H Qt:=by
 obtain⟨H0,ρ,x,ρ',st,e,k⟩:=h;unfold Dm.tOr at e;split at e
 ·rename_i ρ1 e1;cases e;refine⟨H0,ρ,_,_,st,e1,fun H1 Hb t1=>?_⟩;dsimp only;rw[if_pos rfl];exact k H1 Hb t1
 ·rename_i ρ1 e1;refine⟨H0,ρ,_,ρ1,st,e1,fun H1 Hb t1=>?_⟩;dsimp only;rw[if_neg K7];exact⟨H1,ρ1,x,ρ',t1.st,e,fun H2 Hc t2=>k H2 Hc (t1.trans t2)⟩
 ·cases e
end
end
section
variable{ρ:Dm.Env}{H0 H:Hp}{σ:L2.St}
structure SSt(σ:St)(ρ:Dm.Env)(H0 H:Hp)(σ':St)(ρ':Dm.Env)(H0' H':Hp):Prop where
 st:ak H0' H' σ' ρ'
 stp:Stp (ai σ ρ) H0 H H0' H'
 own:∀a,ai σ' ρ' a->ai σ ρ a\/H a=none
 fx:σ'[0]?=σ[0]?
theorem ESt.sst{σ:St}{ρ ρ':Dm.Env}{H0 H H0' H':Hp}(t:ESt σ ρ H0 H ρ' H0' H'):SSt σ ρ H0 H σ ρ' H0' H':=⟨t.st,t.stp,fun a z=>.inl (t.own a z),rfl⟩
theorem SSt.refl{σ:St}(st:ak H0 H σ ρ):SSt σ ρ H0 H σ ρ H0 H:=(ESt.refl st).sst
theorem SSt.trans{σ σ1 σ2:St}{ρ ρ1 ρ2:Dm.Env}{H0 H H1 H' H2 H'':Hp}(t:SSt σ ρ H0 H σ1 ρ1 H1 H')(u:SSt σ1 ρ1 H1 H' σ2 ρ2 H2 H''):SSt σ ρ H0 H σ2 ρ2 H2 H'':=
 ⟨u.st,t.stp.trans u.stp t.own,fun a z=>(u.own a z).elim (t.own a) fun n=>.inr (t.stp.gone n),u.fx.trans t.fx⟩
def GX(σ:St)(ρ:Dm.Env)(H H0' H':Hp)(v:V):RV->Prop
 |.val d=>Rep H0' v d
 |.new d=>∃a,v=V.ref a/\(H a=none\/ai σ ρ a)/\H0' a=none/\Own H0' H' a d
def jQ(D:Ends)(σ:St)(ρ:Dm.Env)(H0 H:Hp):Dm.Out->Prop
 |.nx ρ'=>∀σ' H0' H',SSt σ ρ H0 H σ' ρ' H0' H'->D.nx σ' H'
 |.bk ρ'=>∀σ' H0' H',SSt σ ρ H0 H σ' ρ' H0' H'->D.bk σ' H'
 |.ct ρ'=>∀σ' H0' H',SSt σ ρ H0 H σ' ρ' H0' H'->D.ct σ' H'
 |.ret z ρ'=>∀σ' v H0' H',SSt σ ρ H0 H σ' ρ' H0' H'->GX σ ρ H H0' H' v z->(∀d a,z=.new d->v=.ref a->¬ai σ' ρ' a)->D.rt v H'
def tDS(g:FS):TS:=fun D σ H=>∃H0 ρ o,ak H0 H σ ρ/\g ρ=some o/\jQ D σ ρ H0 H o
theorem jQ.pre{D:Ends}{σ σ1:St}{ρ ρ1:Dm.Env}{H0 H H1 H':Hp}{o:Dm.Out}(t:SSt σ ρ H0 H σ1 ρ1 H1 H')(k:jQ D σ ρ H0 H o):jQ D σ1 ρ1 H1 H' o:=by
 cases o with
 |nx ρ'=>exact fun σ' H0' H' u=>k σ' H0' H' (t.trans u)
 |bk ρ'=>exact fun σ' H0' H' u=>k σ' H0' H' (t.trans u)
 |ct ρ'=>exact fun σ' H0' H' u=>k σ' H0' H' (t.trans u)
 |ret z ρ'=>
  refine fun σ' v H0' H'' u r no=>k σ' v H0' H'' (t.trans u) ?_ no;cases z with
  |val d=>exact r
  |new d=>
   obtain⟨a,e,n,n0,w⟩:=r;refine⟨a,e,?_,n0,w⟩;rcases n with n | n
   ·exact .inl (t.stp.gone n)
   ·exact(t.own a n).symm
theorem ak.mask(st:ak H0 H σ ρ)(i:Nat):ak H0 H σ (ρ.set i .un) where
 same:=st.same
 len:=by rw[K8];exact st.len
 sh:=fun j d h=>by
  by_cases q:i=j
  ·subst q;rw[Mu]at h;simp only[if_true]at h;split at h<;>cases h
  ·rw[gc q]at h;exact st.sh j d h
 ow:=fun j d h=>by
  by_cases q:i=j
  ·subst q;rw[Mu]at h;simp only[if_true]at h;split at h<;>cases h
  ·rw[gc q]at h;exact st.ow j d h
 dis:=fun j j' d d' a h1 h2 h3 h4=>by
  by_cases q:i=j
  ·subst q;rw[Mu]at h1;simp only[if_true]at h1;split at h1<;>cases h1
  ·by_cases q':i=j'
   ·subst q';rw[Mu]at h2;simp only[if_true]at h2;split at h2<;>cases h2
   ·rw[gc q]at h1;rw[gc q']at h2;exact st.dis j j' d d' a h1 h2 h3 h4
theorem bH{i:Nat}{a:Addr}(h:ai σ (ρ.set i .un) a):∃(j:Nat) (d:Dat),j≠i/\ρ[j]?=some (Dm.Cell.ow d)/\σ[j]?=some (some (V.ref a)):=by
 obtain⟨j,d,h1,h2⟩:=h;by_cases q:i=j
 ·subst q;rw[Mu]at h1;simp only[if_true]at h1;split at h1<;>cases h1
 ·rw[gc q]at h1;exact⟨j,d,fun z=>q z.symm,h1,h2⟩
end
section
variable{D:Ends}{σ:St}{H:Hp}
theorem Jw(h:tDS Dm.sNx D σ H):oU D σ H:=by obtain⟨H0,ρ,o,st,e,k⟩:=h;cases e;exact k σ H0 H (.refl st)
theorem GY{s u:FS}(h:tDS (Dm.aI s u) D σ H):jH (tDS s) (tDS u) D σ H:=by
 obtain⟨H0,ρ,o,st,e,k⟩:=h;unfold Dm.aI at e;split at e
 ·rename_i ρ1 e1;exact⟨H0,ρ,.nx ρ1,st,e1,fun σ' H0' H' t=>⟨H0',ρ1,o,t.st,e,k.pre t⟩⟩
 ·rename_i h1;cases o with
  |nx ρ1=>exact absurd e (h1 ρ1)
  |bk ρ1=>exact⟨H0,ρ,_,st,e,k⟩
  |ct ρ1=>exact⟨H0,ρ,_,st,e,k⟩
  |ret z ρ1=>exact⟨H0,ρ,_,st,e,k⟩
theorem D5{f:FE}(h:tDS (Dm.sE f) D σ H):oV (tD f) D σ H:=by
 obtain⟨H0,ρ,o,st,e,k⟩:=h;unfold Dm.sE at e;split at e
 ·cases e
 ·rename_i x ρ1 e1;cases e;exact⟨H0,ρ,x,ρ1,st,e1,fun v H0' H' t r=>k σ H0' H' t.sst⟩
theorem GZ{f:FE}(h:tDS (Dm.sR f) D σ H):uc (tD f) D σ H:=by
 obtain⟨H0,ρ,o,st,e,k⟩:=h;unfold Dm.sR at e;split at e
 ·cases e
 ·rename_i d ρ1 e1;cases e;refine⟨H0,ρ,_,ρ1,st,e1,fun v H0' H' t r=>?_⟩;obtain⟨a,e,n,no,n0,w⟩:=r;exact k σ v H0' H' t.sst ⟨a,e,.inl n,n0,w⟩ fun d' a' _ e' z=>by rw[e]at e';cases e';exact no z
 ·rename_i d ρ1 e1;cases e;exact⟨H0,ρ,_,ρ1,st,e1,fun v H0' H' t r=>k σ v H0' H' t.sst r fun d' a' z=>by cases z⟩
 ·rename_i i ρ1 e1;split at e
  ·rename_i d h1;cases e;refine⟨H0,ρ,_,ρ1,st,e1,fun v H0' H' t r=>?_⟩;obtain⟨q,_⟩:=r;obtain⟨a,q',n0,w⟩:=t.st.ow i d h1;rw[q]at q';cases q';refine k σ _ H0' H' ⟨t.st.mask i,t.stp,fun b z=>?_,rfl⟩ ⟨a,rfl,.inr (t.own a ⟨i,d,h1,q⟩),n0,w⟩ fun d' a' _ e' z=>?_
   ·obtain⟨j,d2,_,z1,z2⟩:=bH z;exact .inl (t.own b ⟨j,d2,z1,z2⟩)
   ·cases e';obtain⟨j,d2,hj,z1,z2⟩:=bH z;exact hj (t.st.dis j i d2 d a z1 h1 z2 q)
  ·rename_i d h1;cases e;refine⟨H0,ρ,_,ρ1,st,e1,fun v H0' H' t r=>?_⟩;obtain⟨q,_⟩:=r;obtain⟨u,q',w⟩:=t.st.sh i d h1;rw[q]at q';cases q';exact k σ _ H0' H' t.sst w fun d' a' z=>by cases z
  ·cases e
theorem G0{t:FT}{a b:FS}(h:tDS (Dm.sIf t a b) D σ H):vz (tDT t) (tDS a) (tDS b) D σ H:=by
 obtain⟨H0,ρ,o,st,e,k⟩:=h;unfold Dm.sIf at e;split at e
 ·cases e
 ·rename_i ρ1 e1;refine⟨H0,ρ,true,ρ1,st,e1,fun H1 Hb t1=>?_⟩;dsimp only;rw[if_pos rfl];exact⟨H1,ρ1,o,t1.st,e,k.pre t1.sst⟩
 ·rename_i ρ1 e1;refine⟨H0,ρ,false,ρ1,st,e1,fun H1 Hb t1=>?_⟩;dsimp only;rw[if_neg K7];exact⟨H1,ρ1,o,t1.st,e,k.pre t1.sst⟩
end
section
variable{ρ:Dm.Env}{σ:St}{i:Nat}{H0 H:Hp}{d:Dat}{a:Addr}{b:Addr}{o:HO}{v:V}
theorem eX{i j:Nat}{c d:Option V}(h:(σ.set i c)[j]?=some d):(j=i/\d=c)\/(j≠i/\σ[j]?=some d):=by
 by_cases e:j=i
 ·subst e;by_cases l:j<σ.length
  ·rw[KW l]at h;exact .inl ⟨rfl,(Option.some.inj h).symm⟩
  ·rw[LX (by simpa using MB.mp l)]at h;cases h
 ·rw[gc (Lg e)]at h;exact .inr ⟨e,h⟩
theorem ak.inσ{c d:Dm.Cell}(st:ak H0 H σ ρ)(h:(ρ.set i c)[i]?=some d):i<σ.length:=by have:=(pe.mp h).1;rw[K8]at this;rw[st.len];exact this
theorem cS(h:ai (σ.set i (some v)) (ρ.set i (.sh d)) b):ai σ ρ b:=by
 obtain⟨j,d',h1,h2⟩:=h;rcases aQ h1 with⟨_,z⟩ | ⟨hj,h1⟩
 ·cases z
 ·rcases eX h2 with⟨z,_⟩ | ⟨_,h2⟩
  ·exact absurd z hj
  ·exact⟨j,d',h1,h2⟩
theorem ak.jR(st:ak H0 H σ ρ)(r:Rep H0 v d):ak H0 H (σ.set i (some v)) (ρ.set i (.sh d)) where
 same:=st.same
 len:=by rw[K8,K8];exact st.len
 sh:=fun j d' h=>by
  rcases aQ h with⟨rfl,z⟩ | ⟨hj,h'⟩
  ·cases z;exact⟨v,KW (st.inσ h),r⟩
  ·obtain⟨u,q,w⟩:=st.sh j d' h';exact⟨u,by rw[gc (Lg hj)];exact q,w⟩
 ow:=fun j d' h=>by
  rcases aQ h with⟨_,z⟩ | ⟨hj,h'⟩
  ·cases z
  ·obtain⟨u,q,w⟩:=st.ow j d' h';exact⟨u,by rw[gc (Lg hj)];exact q,w⟩
 dis:=fun j k d1 d2 b h1 h2 h3 h4=>by
  rcases aQ h1 with⟨_,z⟩ | ⟨hj,h1⟩
  ·cases z
  rcases aQ h2 with⟨_,z⟩ | ⟨hk,h2⟩
  ·cases z
  rw[gc (Lg hj)]at h3;rw[gc (Lg hk)]at h4;exact st.dis j k d1 d2 b h1 h2 h3 h4
theorem ak.v5(st:ak H0 H σ ρ)(no:¬ai σ ρ a)(n0:H0 a=none)(w:Own H0 H a d):ak H0 H (σ.set i (some (.ref a))) (ρ.set i (.ow d)) where
 same:=st.same
 len:=by rw[K8,K8];exact st.len
 sh:=fun j d' h=>by
  rcases aQ h with⟨_,z⟩ | ⟨hj,h'⟩
  ·cases z
  ·obtain⟨u,q,w⟩:=st.sh j d' h';exact⟨u,by rw[gc (Lg hj)];exact q,w⟩
 ow:=fun j d' h=>by
  rcases aQ h with⟨rfl,z⟩ | ⟨hj,h'⟩
  ·cases z;exact⟨a,KW (st.inσ h),n0,w⟩
  ·obtain⟨u,q,w⟩:=st.ow j d' h';exact⟨u,by rw[gc (Lg hj)];exact q,w⟩
 dis:=fun j k d1 d2 b h1 h2 h3 h4=>by
  rcases aQ h1 with⟨e1,z1⟩ | ⟨hj,h1'⟩
  ·rcases aQ h2 with⟨e2,z2⟩ | ⟨hk,h2'⟩
   ·rw[e1,e2]
   ·rcases eX h3 with⟨_,z⟩ | ⟨z,_⟩
    ·cases z;rw[gc (Lg hk)]at h4;exact absurd ⟨k,d2,h2',h4⟩ no
    ·exact absurd e1 z
  ·rcases aQ h2 with⟨e2,z2⟩ | ⟨hk,h2'⟩
   ·rcases eX h4 with⟨_,z⟩ | ⟨z,_⟩
    ·cases z;rw[gc (Lg hj)]at h3;exact absurd ⟨j,d1,h1',h3⟩ no
    ·exact absurd e2 z
   ·rw[gc (Lg hj)]at h3;rw[gc (Lg hk)]at h4;exact st.dis j k d1 d2 b h1' h2' h3 h4
theorem nG{a b:Addr}(h:ai (σ.set i (some (.ref a))) (ρ.set i (.ow d)) b):b=a\/ai σ ρ b:=by
 obtain⟨j,d',h1,h2⟩:=h;rcases aQ h1 with⟨e,_⟩ | ⟨hj,h1⟩
 ·rcases eX h2 with⟨_,z⟩ | ⟨z,_⟩
  ·cases z;exact .inl rfl
  ·exact absurd e z
 ·rcases eX h2 with⟨z,_⟩ | ⟨_,h2⟩
  ·exact absurd z hj
  ·exact .inr ⟨j,d',h1,h2⟩
theorem ak.write{d d':Dat}(st:ak H0 H σ ρ)(e:ρ[i]?=some (.ow d))(q:σ[i]?=some (some (V.ref a)))(w':Own H0 (upd H a o) a d') :
  ak H0 (upd H a o) σ (ρ.set i (.ow d')):=by
 obtain⟨a',q',n,w⟩:=st.ow i d e;rw[q]at q';cases q';refine⟨fun b u z=>?_,by rw[K8];exact st.len,fun j d1 h=>?_,fun j d1 h=>?_,fun j k d1 d2 b h1 h2 h3 h4=>?_⟩
 ·rw[af (au z n)];exact st.same _ _ z
 ·rcases aQ h with⟨_,z⟩ | ⟨hj,h'⟩
  ·cases z
  ·exact st.sh j d1 h'
 ·rcases aQ h with⟨rfl,z⟩ | ⟨hj,h'⟩
  ·cases z;exact⟨a,q,n,w'⟩
  ·obtain⟨b,q1,n1,w1⟩:=st.ow j d1 h';have nb:b≠a:=fun y=>hj (st.dis j i d1 d a h' e (y▸q1) q);exact⟨b,q1,n1,w1.mono (ah.refl _) (af nb)⟩
 ·have f:∀{j:Nat} {d1:Dat},(ρ.set i (.ow d'))[j]?=some (.ow d1)->∃d2,ρ[j]?=some (.ow d2):=fun {j d1} h=>by
   rcases aQ h with⟨rfl,_⟩ | ⟨_,h'⟩
   ·exact⟨d,e⟩
   ·exact⟨d1,h'⟩
  obtain⟨x1,y1⟩:=f h1;obtain⟨x2,y2⟩:=f h2;exact st.dis j k x1 x2 b y1 y2 h3 h4
theorem ja{d d':Dat}(e:ρ[i]?=some (.ow d))(h:ai σ (ρ.set i (.ow d')) b):ai σ ρ b:=by
 obtain⟨j,d1,h1,h2⟩:=h;rcases aQ h1 with⟨rfl,_⟩ | ⟨_,h'⟩
 ·exact⟨j,d,e,h2⟩
 ·exact⟨j,d1,h',h2⟩
theorem Stp.write(w:ai σ ρ a):Stp (ai σ ρ) H0 H H0 (upd H a o):=
 ⟨ah.refl _,fun b u e n=>by rw [af (show b≠a from fun z=>n (by rw [z];exact w))];exact e,fun b u e=>.inr (.inl e),fun b u e=>by
  by_cases z:b=a
  ·subst z;exact⟨o,aq⟩
  ·exact⟨u,by rw[af z];exact e⟩⟩
end
section
variable{D:Ends}{σ:St}{H:Hp}
section
variable{ρ:Dm.Env}{f:FE}{a:Addr}{is:List Nat}{body:FS}{i:Nat}{ds:List Dat}{d:Dat}{bd:Dm.FB}{xs:List V}{vs:List V}{H0:Hp}{k:Nat}{fi:Dm.FI}{g:TG}{o:HO}{Q:VK}{n m:Nat}{E:XK}
theorem v7(h:tDS (Dm.sA i f) D σ H):ng (tD f) (fY i) D σ H:=by
 obtain⟨H0,ρ,o,st,e,k⟩:=h;unfold Dm.sA at e;split at e
 ·cases e
 rename_i hi0;split at e
 ·cases e
 ·rename_i d ρ1 e1;cases e;refine⟨H0,ρ,_,ρ1,st,e1,fun v H0' H' t r=>?_⟩;obtain⟨a,e,n,no,n0,w⟩:=r;subst e;refine k _ H0' H' ⟨t.st.v5 no n0 w,t.stp,fun b z=>?_,gc hi0⟩;rcases nG z with rfl | z
  ·exact .inr n
  ·exact .inl (t.own b z)
 ·rename_i x ρ1 _ e1;split at e
  ·cases e
  ·rename_i d ρ2 e2;cases e;refine⟨H0,ρ,_,ρ1,st,e1,fun v H0' H' t r=>?_⟩;obtain⟨H1,t1,b1,r1,_,_⟩:=take1 t (ah.refl _) r e2;exact k _ H1 H' ⟨t1.st.jR r1,t1.stp,fun b z=>.inl (t1.own b (cS z)),gc hi0⟩
theorem sq{j:Nat}(h:Def ρ j):Def (ρ.set i (.sh d)) j:=trivial
noncomputable def dX:List Nat->TGs
 |[]=>Gy
 |i::is=>BK (fY i) (dX is)
theorem su{H0 H:Hp}{Q:St->Hp->Prop}:∀{is:List Nat} {xs:List V} {ds:List Dat} {σ:St} {ρ ρ':Dm.Env},ak H0 H σ ρ->av H0 xs ds->Dm.sets is ds ρ=some ρ' ->
  (∀σ',ak H0 H σ' ρ'->(∀a,ai σ' ρ' a->ai σ ρ a)->(∀j,j∉is->σ'[j]?=σ[j]?)->(∀j,Def ρ j->Def ρ' j)->σ'[0]?=σ[0]?->Q σ' H)->dX is xs σ H Q
 |[],_,[],σ,ρ,ρ',st,r,e,k=>by cases r;cases e;exact⟨rfl,k σ st (fun _ z=>z) (fun _ _=>rfl) (fun _ z=>z) rfl⟩
 |i::is,_,d::ds,σ,ρ,ρ',st,r,e,k=>by
  cases r with
  |cons h r=>
   unfold Dm.sets at e;split at e
   ·cases e
   rename_i hi0;refine⟨_,_,rfl,?_⟩;refine su (st.jR h) r e fun σ' st' o' n' d' f'=>k σ' st' (fun a z=>cS (o' a z)) (fun j hj=>?_) (fun j z=>d' j (sq z)) (f'.trans (gc hi0));rw[n' j fun z=>hj (Kw _ z)];exact gc fun z=>hj (by rw[z];exact Kz)
 |[],_,_::_,_,_,_,_,_,e,_=>by cases e
 |_::_,_,[],_,_,_,_,_,e,_=>by cases e
theorem pC:∀{is:List Nat} {ds:List Dat} {ρ ρ':Dm.Env},Dm.sets is ds ρ=some ρ'->ds.length=is.length
 |[],[],_,_,_=>rfl
 |i::is,_::ds,_,_,e=>by
  unfold Dm.sets at e;split at e
  ·cases e
  ·simp[pC (is:=is) (ds:=ds) e]
 |[],_::_,_,_,e=>by cases e
 |_::_,[],_,_,e=>by cases e
def BD(is:List Nat)(g:TG)(bd:Dm.FB):Prop:=∀(H0 H:Hp) (σ:St) (ρ ρ':Dm.Env) (x:V) (d:Dat) (Q:St->Hp->Prop),ak H0 H σ ρ->Rep H0 x d->bd d ρ=some ρ' ->
 (∀σ',ak H0 H σ' ρ'->(∀a,ai σ' ρ' a->ai σ ρ a)->(∀j,j∉is->σ'[j]?=σ[j]?)->(∀j,Def ρ j->Def ρ' j)->σ'[0]?=σ[0]?->Q σ' H)->g x σ H Q
theorem sC(i:Nat):BD [i] (fY i) (Dm.bN i):=by
 intro H0 H σ ρ ρ' x d Q st r e k;unfold Dm.bN at e;split at e
 ·cases e
 rename_i hi0;cases e;refine k _ (st.jR r) (fun a z=>cS z) (fun j hj=>?_) (fun j h=>sq h) (gc hi0);exact gc (fun z=>hj (by rw[z];exact KS.mpr rfl))
theorem v8{K:gb}(is:List Nat){n:Nat}(hn:is.length=n):BD is (Dr K n (dX is)) (Dm.bT is):=by
 intro H0 H σ ρ ρ' x d Q st r e k;unfold Dm.bT at e;split at e
 ·cases r with
  |tup q rs=>exact⟨_,_,rfl,SqT.of (st.same _ _ q),by rw[rs.length,pC e,hn],su st rs e k⟩
 ·cases e
theorem G1{K:gb}(h:tDS (Dm.nB i f) D σ H):oV (tBM K "list" ny (qC i) (tDA [f])) D σ H:=by
 obtain⟨H0,ρ,o,st,e,k⟩:=h;unfold Dm.nB at e;split at e
 ·rename_i ds0 h0;obtain⟨a0,q0,n0,w0⟩:=st.ow i _ h0;refine⟨_,q0,?_⟩;split at e
  ·cases e
  rename_i x ρ1 e1;split at e
  ·cases e
  rename_i d ρ2 e2;split at e
  ·rename_i ds h2;split at e
   ·rename_i hz;cases e;obtain⟨xs0,y0,_⟩:=w0;refine⟨.inl ⟨rfl,xs0,.inl (.inl y0)⟩,?_⟩;refine⟨H0,ρ,[x],ρ1,st,by unfold Dm.eAs;rw[e1];rfl,fun vs H0' H' t r=>?_⟩;cases r with
    |cons r rr=>
     cases rr;obtain⟨H1,t1,b1,r1,_,_⟩:=take1 t (ah.refl _) r e2;obtain⟨a,q,n,w⟩:=t1.st.ow i _ h2;rw[q0]at q;cases q;obtain⟨xs,y,rs⟩:=w;refine⟨a0,xs,_,rfl,rfl,y,by rw[rs.length];exact KN hz (by decide),?_⟩;have ow:ai σ ρ2 a0:=⟨i,_,h2,q0⟩
     refine k σ H1 _ ⟨t1.st.write h2 q0 ⟨_,aq,rs.append (.cons r1 .nil)⟩,t1.stp.trans (Stp.write ow) fun b z=>.inl (t1.own b z),fun b z=>.inl (t1.own b (ja h2 z)),rfl⟩
   ·cases e
  ·cases e
 ·cases e
theorem D6(n:Nat)(i:Int):Dm.ixN n i=L2.ixN n i:=rfl
theorem G3{j f:FE}(h:tDS (Dm.qJ i j f) D σ H):ng (tD f) (iM (qC i) (tD j) BR) D σ H:=by
 obtain⟨H0,ρ,o,st,e,k⟩:=h;unfold Dm.qJ at e;split at e
 ·cases e
 rename_i x ρ1 e1;split at e
 ·cases e
 rename_i d ρ2 e2;split at e
 case h_2=>cases e
 rename_i d0 h2;split at e
 ·rename_i m ρ3 e3;split at e
  ·rename_i ds h3;split at e
   ·cases e
   ·rename_i p e4;cases e;refine⟨H0,ρ,_,ρ1,st,e1,fun v H0' H' t r=>?_⟩;obtain⟨H1,t1,b1,r1,_,_⟩:=take1 t (ah.refl _) r e2;obtain⟨a0,q0,_,_⟩:=t1.st.ow i _ h2;refine⟨_,q0,H1,ρ2,_,ρ3,t1.st,e3,fun u H2 Hc t2 r2=>?_⟩;obtain⟨a,q,n,w⟩:=t2.st.ow i _ h3;rw[q0]at q;cases q;obtain⟨xs,y,rs⟩:=w;refine⟨a0,xs,m,p,rfl,Rep.isInt r2,y,by rw[rs.length];exact e4,?_⟩;have ow:ai σ ρ3 a0:=⟨i,_,h3,q0⟩
    have tt:=t1.trans t2;refine k σ H2 _ ⟨t2.st.write h3 q0 ⟨_,aq,rs.set (r1.mono t2.stp.s0) p⟩,tt.stp.trans (Stp.write ow) fun b z=>.inl (tt.own b z),fun b z=>.inl (tt.own b (ja h3 z)),rfl⟩
  ·cases e
 ·cases e
def JW(J:It)(H00:Hp)(ys:List Dat):Prop:=∀H0 H,ah H00 H0->ah H0 H->(∀i,ys.length<=i->J.stop i H) /\
 ∀(i:Nat) (d:Dat),ys[i]?=some d->J.go i H/\∀x H',J.yld i H x H'->∃H0',aJ H0 H H0' H'/\Rep H0' x d
def tDI(fi:Dm.FI):TI:=fun σ H R=>∃H0 ρ ys ρ',ak H0 H σ ρ/\fi ρ=some (ys,ρ')/\∀J H0' H',ESt σ ρ H0 H ρ' H0' H'->JW J H0' ys->R J H'
theorem G4(hb:BD is g bd)(h:tDS (Dm.gh fi bd body) D σ H):Du (tDI fi) g (tDS body) D σ H:=by
 obtain⟨H0,ρ,o,st,e,k⟩:=h;unfold Dm.gh at e;split at e
 ·cases e
 rename_i ys ρ1 e1;refine⟨H0,ρ,ys,ρ1,st,e1,fun J H00 Hb t1 jw=>?_⟩;refine ⟨fun i m σ H=>∃ H0 ρ o,ak H0 H σ ρ∧ah H00 H0∧m=ys.length-i∧i≤ys.length∧Dm.iQ bd body (ys.drop i) ρ=some o∧jQ D σ ρ H0 H o,
  ⟨ys.length,H00,ρ1,o,t1.st,ah.refl _,by simp,Lc _,by simpa using e,k.pre t1.sst⟩,?_⟩
 rintro i m σ H ⟨H0,ρ,o,st,s00,rfl,hi,e,k⟩;obtain⟨js,jg⟩:=jw H0 H s00 st.same;by_cases Cs:i<ys.length
 ·have hd:ys[i]?=some ys[i]:=by simp[Cs]
  obtain⟨g1,g2⟩:=jg i ys[i] hd;rw[Lp Cs]at e;unfold Dm.iQ at e;refine .inr ⟨g1,fun σ' H'=>∃H0 ρ o,ak H0 H' σ' ρ/\ah H00 H0/\Dm.iQ bd body (ys.drop (i+1)) ρ=some o/\jQ D σ' ρ H0 H' o,?_,fun x H' y=>?_⟩
  ·rintro σ' H' ⟨H0',ρ',o',h1,h2,h3,h4⟩;exact⟨ys.length-(i+1),by lia,H0',ρ',o',h1,h2,rfl,Cs,h3,h4⟩
  ·obtain⟨H0',gr,rx⟩:=g2 x H' y;split at e
   ·cases e
   ·rename_i ρ2 e2;have t2:=ESt.grow st gr;refine hb H0' H' σ ρ ρ2 x ys[i] _ t2.st rx e2 fun σ2 st2 o2 _ _ f2=>?_;have t3:SSt σ ρ H0 H σ2 ρ2 H0' H':=⟨st2,t2.stp,fun a z=>.inl (o2 a z),f2⟩
    have k3:=k.pre t3;have s3:ah H00 H0':=s00.trans gr.s0;split at e
    ·rename_i ρ3 e3;exact⟨H0',ρ2,_,st2,e3,fun σ4 H4 Hd t4=>⟨H4,ρ3,o,t4.st,s3.trans t4.stp.s0,e,k3.pre t4⟩⟩
    ·rename_i ρ3 e3;exact⟨H0',ρ2,_,st2,e3,fun σ4 H4 Hd t4=>⟨H4,ρ3,o,t4.st,s3.trans t4.stp.s0,e,k3.pre t4⟩⟩
    ·rename_i ρ3 e3;cases e;exact⟨H0',ρ2,_,st2,e3,k3⟩
    ·rename_i v ρ3 e3;cases e;exact⟨H0',ρ2,_,st2,e3,k3⟩
    ·cases e
 ·have e':i=ys.length:=by lia
  subst e';rw[MZ]at e;cases e;exact .inl ⟨js _ (Nat.le_refl _),k σ H0 H (.refl st)⟩
theorem zD{K:gb}(hq:Rd H0 a (.lst xs))(rs:av H0 xs ds):JW (Itl K a) H0 ds:=by intro H0' H s0 s1;have q:SqL K H a xs:=.inl (ah.rd s1 (ah.rd s0 hq));refine⟨fun i hi=>⟨xs,q,by rw[rs.length];exact hi⟩,fun i d e=>?_⟩;obtain⟨v,hv,rv⟩:=rs.get e;refine⟨⟨xs,v,q,hv⟩,fun x H' y=>?_⟩;obtain⟨e1,y⟩:=y;subst e1;have z:=y xs q;rw[hv]at z;cases z;exact⟨H0',aJ.refl s1,rv.mono s0⟩
theorem D7{K:gb}(hq:H0 a=some (.tup xs))(rs:av H0 xs ds):JW (Itt K a) H0 ds:=by intro H0' H s0 s1;have q:SqT K H a xs:=.inl (.inl (s1 _ _ (s0 _ _ hq)));refine⟨fun i hi=>⟨xs,q,by rw[rs.length];exact hi⟩,fun i d e=>?_⟩;obtain⟨v,hv,rv⟩:=rs.get e;refine⟨⟨xs,v,q,hv⟩,fun x H' y=>?_⟩;obtain⟨e1,y⟩:=y;subst e1;have z:=y xs q;rw[hv]at z;cases z;exact⟨H0',aJ.refl s1,rv.mono s0⟩
theorem jS{lo:Int}{n:Nat}:JW (Itr lo n) H0 (Dm.ups lo n):=by
 intro H0' H s0 s1;have el:(Dm.ups lo n).length=n:=by simp[Dm.ups]
 refine⟨fun i hi=>by rw[el]at hi;exact hi,fun i d e=>?_⟩;have hi:i<n:=by have:=(pe.mp e).1;rw[el]at this;exact this
 have hd:d=.int (lo+i):=by unfold Dm.ups at e;rw[KZ,Mm hi]at e;exact(Option.some.inj e).symm
 refine⟨hi,fun x H' y=>?_⟩;obtain⟨rfl,rfl⟩:=y;subst hd;exact⟨H0',aJ.refl s1,.int _⟩
variable{R:It->Hp->Prop}
theorem Jx{K:gb}(h:tDI (Dm.iL f) σ H R):oY K (tD f) σ H R:=by
 obtain⟨H0,ρ,ys,ρ',st,e,k⟩:=h;unfold Dm.iL at e;split at e
 ·cases e
 rename_i x ρ1 e1;split at e
 ·rename_i ds ρ2 e2;cases e;refine⟨H0,ρ,_,ρ1,st,e1,fun v H0' H' t r=>?_⟩;obtain⟨H1,t1,b1,r1,_,_⟩:=take1 t (ah.refl _) r e2;cases r1 with
  |lst q rs=>exact⟨_,rfl,⟨_,.inl (ah.rd t1.st.same q)⟩,k _ H1 H' t1 (zD q rs)⟩
 ·cases e
theorem Jy{K:gb}(h:tDI (Dm.iT f) σ H R):vE K (tD f) σ H R:=by
 obtain⟨H0,ρ,ys,ρ',st,e,k⟩:=h;unfold Dm.iT at e;split at e
 ·cases e
 rename_i x ρ1 e1;split at e
 ·rename_i ds ρ2 e2;cases e;refine⟨H0,ρ,_,ρ1,st,e1,fun v H0' H' t r=>?_⟩;obtain⟨H1,t1,b1,r1,_,_⟩:=take1 t (ah.refl _) r e2;cases r1 with
  |tup q rs=>exact⟨_,rfl,⟨_,.inl (.inl (t1.st.same _ _ q))⟩,k _ H1 H' t1 (D7 q rs)⟩
 ·cases e
theorem G5(h:tDI (Dm.iR1 f) σ H R):vG (tDA [f]) σ H R:=by
 obtain⟨H0,ρ,ys,ρ',st,e,k⟩:=h;unfold Dm.iR1 at e;split at e
 ·rename_i j ρ1 e1;split at e
  ·rename_i hb;cases e;refine⟨H0,ρ,[.val (.int j)],_,st,by unfold Dm.eAs;rw[e1];rfl,fun vs H0' H' t r=>?_⟩;cases r with
   |cons r rr=>cases rr;cases Rep.isInt r;have h1:=hb.1;have h2:=hb.2;unfold Dm.BIG at h1 h2;exact⟨j,rfl,by lia,by lia,k _ H0' H' t jS⟩
  ·cases e
 ·cases e
theorem G6{f g:FE}(h:tDI (Dm.iR2 f g) σ H R):BL (tDA [f,g]) σ H R:=by
 obtain⟨H0,ρ,ys,ρ',st,e,k⟩:=h;unfold Dm.iR2 at e;split at e
 ·rename_i i ρ1 e1;split at e
  ·rename_i j ρ2 e2;split at e
   ·rename_i hb;cases e;refine⟨H0,ρ,[.val (.int i),.val (.int j)],_,st,by unfold Dm.eAs;rw[e1];dsimp only;unfold Dm.eAs;rw[e2];rfl,fun vs H0' H' t r=>?_⟩;cases r with
    |cons r rr=>
     cases rr with
     |cons r' rr=>cases rr;cases Rep.isInt r;cases Rep.isInt r';obtain⟨h1,h2,h3,h4⟩:=hb;unfold Dm.BIG at h1 h2 h3 h4;exact⟨i,j,rfl,⟨by lia,by lia,by lia,by lia⟩,k _ H0' H' t jS⟩
   ·cases e
  ·cases e
 ·cases e
def tLC(wi:TI)(own:Nat)(g:TG)(tt:TT)(te:TE):TE:=fun σ H Q=>wi σ H fun J H1=>∀D,H1 D=none->∃W:Nat->Nat->St->Hp->Prop,
 (∃m,W 0 m (σ++Dk own none) (upd H1 D (.lst [])))/\∀i m σ' H',W i m σ' H' ->
  (J.stop i H'∧Q (.ref D) H')∨(J.go i H'∧∀ x H2,J.yld i H' x H2→g x σ' H2 fun σ2 H3=>tt σ2 H3 fun b H4=>if b=true
   then te σ2 H4 fun y H5=>∃AR,H5 D=some (.lst AR)/\AR.length<sizeLine/\∃m',m'<m/\W (i+1) m' σ2 (upd H5 D (.lst (AR++[y])))
   else ∃m',m'<m/\W (i+1) m' σ2 H4)
theorem ak.aside{H0 H:Hp}{σ:St}(st:ak H0 H σ ρ)(n0:H0 a=none)(no:¬ai σ ρ a):ak H0 (upd H a o) σ ρ where
 same:=fun b u z=>by rw[af (au z n0)];exact st.same _ _ z
 len:=st.len
 sh:=st.sh
 ow:=fun j d h=>by obtain⟨b,q,n,w⟩:=st.ow j d h;have nb:b≠a:=fun y=>no ⟨j,d,h,y▸q⟩;exact⟨b,q,n,w.mono (ah.refl _) (af nb)⟩
 dis:=st.dis
theorem ak.dO{H0 H:Hp}{σ:St}(st:ak H0 H σ ρ)(h:H a=none):¬ai σ ρ a:=fun⟨i,d,h1,h2⟩=>by obtain⟨b,q,n,w⟩:=st.ow i d h1;rw[h2]at q;cases q;obtain⟨o,z⟩:=w.some;rw[h]at z;cases z
theorem gU{α:Type}{l:List α}{r:List α}{x:α}(h:(l++r)[i]?=some x)(n:x∉r):i<l.length/\l[i]?=some x:=by
 by_cases hi:i<l.length
 ·rw[KH hi]at h;exact⟨hi,h⟩
 ·rw[KI (MB.mp hi)]at h;exact absurd (M7 h) n
theorem v9:Dm.Cell.sh d∉Dk k Dm.Cell.un:=fun h=>by have:=List.eq_of_mem_replicate h;cases this
theorem gW:Dm.Cell.ow d∉Dk k Dm.Cell.un:=fun h=>by have:=List.eq_of_mem_replicate h;cases this
theorem ak.ext{H0 H:Hp}{σ:St}(st:ak H0 H σ ρ)(k:Nat):ak H0 H (σ++Dk k none) (ρ++Dk k .un) where
 same:=st.same
 len:=by simp[st.len]
 sh:=fun i d h=>by obtain⟨hi,h⟩:=gU h v9;obtain⟨v,q,r⟩:=st.sh i d h;exact⟨v,by rw[KH (by rw[st.len];exact hi)];exact q,r⟩
 ow:=fun i d h=>by obtain⟨hi,h⟩:=gU h gW;obtain⟨v,q,r⟩:=st.ow i d h;exact⟨v,by rw[KH (by rw[st.len];exact hi)];exact q,r⟩
 dis:=fun i j d e a h1 h2 h3 h4=>by obtain⟨hi,h1⟩:=gU h1 gW;obtain⟨hj,h2⟩:=gU h2 gW;rw[KH (by rw[st.len];exact hi)]at h3;rw[KH (by rw[st.len];exact hj)]at h4;exact st.dis i j d e a h1 h2 h3 h4
theorem fN{H0 H:Hp}{σ:St}(st:ak H0 H σ ρ)(h:ai (σ++Dk k none) (ρ++Dk k .un) a):ai σ ρ a:=by obtain⟨i,d,h1,h2⟩:=h;obtain⟨hi,h1⟩:=gU h1 gW;rw[KH (by rw[st.len];exact hi)]at h2;exact⟨i,d,h1,h2⟩
theorem Stp.aside{O:Addr->Prop}{H0 H H0' H':Hp}{D:Addr}(t:Stp O H0 H H0' H')(hD:H D=none):Stp O H0 H H0' (upd H' D o):=
 ⟨t.s0,fun a u e n=>by rw[af (au e hD)];exact t.s1 a u e n,t.s2,fun a u e=>by rw[af (au e hD)];exact t.s3 a u e⟩
theorem ESt.f6{σ:St}{ρ ρ':Dm.Env}{H0 H H0' H':Hp}(t:ESt σ ρ H0 H ρ' H0' H'){D:Addr}(h:H D=some o)(n0:H0 D=none)(no:¬ai σ ρ D):H' D=some o/\H0' D=none/\¬ai σ ρ' D:=by
 refine⟨t.stp.s1 D o h no,?_,fun z=>no (t.own D z)⟩;cases q:H0' D with
 |none=>rfl
 |some u=>
  rcases t.stp.s2 D u q with z | z | z
  ·rw[h]at z;cases z
  ·rw[n0]at z;cases z
  ·exact absurd z no
def JWa(J:It)(H00:Hp)(pa:Option (Addr×HO))(ys:List Dat):Prop:=∀H0 H,ah H00 H0->ah H0 H->(∀q,pa=some q->H q.1=some q.2)->(∀i,ys.length<=i->J.stop i H) /\
 ∀(i:Nat) (d:Dat),ys[i]?=some d->J.go i H/\∀x H',J.yld i H x H'->∃H0',aJ H0 H H0' H'/\Rep H0' x d
theorem pD{σ:St}{own:Nat}{t:FT}{el:FE}{Q:VK}{H00 Hb:Hp}{ρ1 ρ2:Dm.Env}{ds ys:List Dat}{J:It}{pa:Option (Addr×HO)}(hb:BD is g bd)(hl:∀i∈is,σ.length<=i)
  (st1:ak H00 Hb σ ρ1) (hp:∀q,pa=some q->Hb q.1=some q.2/\H00 q.1=none/\¬ai σ ρ1 q.1) (jw:JWa J H00 pa ds) (hsz:ds.length<=Dm.SZ) (e2:Dm.cA bd t el ds (ρ1++Dk own .un) []=some (ys,ρ2))
  (k:∀v H0' H',ESt σ ρ1 H00 Hb (ρ2.take ρ1.length) H0' H'->eO Hb H0' H' σ (ρ2.take ρ1.length) v (.new (.lst ys))->(∀q,pa=some q->H' q.1=some q.2/\H0' q.1=none)->Q v H') (D:Addr) (hD:Hb D=none) :
  ∃W:Nat->Nat->St->Hp->Prop,(∃m,W 0 m (σ++Dk own none) (upd Hb D (.lst [])))/\∀i m σ' H',W i m σ' H' ->
  (J.stop i H'∧Q (.ref D) H')∨(J.go i H'∧∀ x H2,J.yld i H' x H2→g x σ' H2 fun σ2 H3=>tDT t σ2 H3 fun b H4=>if b=true
   then tD el σ2 H4 fun y H5=>∃AR,H5 D=some (.lst AR)/\AR.length<sizeLine/\∃m',m'<m/\W (i+1) m' σ2 (upd H5 D (.lst (AR++[y])))
   else ∃m',m'<m/\W (i+1) m' σ2 H4):=by
 have hpD:∀q,pa=some q->q.1≠D:=fun q e z=>by have:=(hp q e).1;rw[z,hD]at this;cases this
 have noD:¬ai σ ρ1 D:=st1.dO hD;refine ⟨fun i m σ' H'=>∃ (H0c:Hp) (ρc:Dm.Env) (uB:List Dat) (qM:List V),ak H0c H' σ' ρc∧ah H00 H0c∧m=ds.length-i∧i≤ds.length∧Dm.cA bd t el (ds.drop i) ρc uB=some (ys,ρ2) ∧
  H' D=some (.lst qM)/\av H0c qM uB/\H0c D=none/\uB.length<=i/\Stp (ai σ ρ1) H00 Hb H0c H'/\(∀j,j<σ.length->σ'[j]?=σ[j]?)/\(∀a,ai σ' ρc a->ai σ ρ1 a)/\(∀j,Def ρ1 j->Def ρc j)/\(∀q,pa=some q->H' q.1=some q.2/\H0c q.1=none/\¬ai σ' ρc q.1),
  ⟨ds.length,H00,ρ1++Dk own .un,[],[],(st1.aside (st1.same.free hD) noD).ext own,ah.refl _,by simp,Lc _,by simpa using e2,aq,.nil,st1.same.free hD,Lc _,(Stp.refl _ _ _).aside hD,
   fun j hj=>KH hj,fun a z=>fN st1 z,fun j z=>trivial,fun q e=>⟨by rw[af (hpD q e)];exact(hp q e).1,(hp q e).2.1,fun z=>(hp q e).2.2 (fN st1 z)⟩⟩,?_⟩
 rintro i m σ' H' ⟨H0c,ρc,uB,qM,sc,s00,rfl,hi,ec,hDl,ra,n0,hal,sp,hσ,ho,hdf,hpc⟩;have nOc:¬ai σ' ρc D:=fun z=>noD (ho D z);obtain⟨js,jg⟩:=jw H0c H' s00 sc.same fun q e=>(hpc q e).1;by_cases Cs:i<ds.length
 ·have hd:ds[i]?=some ds[i]:=by simp[Cs]
  obtain⟨g1,g2⟩:=jg i ds[i] hd;rw[Lp Cs]at ec;unfold Dm.cA at ec;refine .inr ⟨g1,fun y H2 yy=>?_⟩;obtain⟨H0',gr,rx⟩:=g2 y H2 yy;split at ec
  ·cases ec
  rename_i ρ3 e3;have t2:=ESt.grow sc gr;obtain⟨hD2,n02,no2⟩:=t2.f6 hDl n0 nOc;have hp2:=fun q e=>t2.f6 (hpc q e).1 (hpc q e).2.1 (hpc q e).2.2;refine hb H0' H2 σ' ρc ρ3 y ds[i] _ t2.st rx e3 fun σ3 st3 o3 k3 d3 _=>?_;have no3:¬ai σ3 ρ3 D:=fun z=>no2 (o3 D z);have po3:∀q,pa=some q->¬ai σ3 ρ3 q.1:=fun q e z=>(hp2 q e).2.2 (o3 q.1 z);have hσ3:∀j,j<σ.length->σ3[j]?=σ[j]?:=fun j hj=>(k3 j fun z=>MB.mpr (hl j z) hj).trans (hσ j hj);have ho3:∀a,ai σ3 ρ3 a->ai σ ρ1 a:=fun a z=>ho a (o3 a z);have G7:∀j,Def ρ1 j->Def ρ3 j:=fun j z=>d3 j (hdf j z);have sp3:Stp (ai σ ρ1) H00 Hb H0' H2:=sp.trans t2.stp fun a z=>.inl (ho a z);have ra3:=ra.mono gr.s0;have s3:ah H00 H0':=s00.trans gr.s0;split at ec
  ·cases ec
  ·rename_i ρ4 e4;refine⟨H0',ρ3,false,ρ4,st3,e4,fun qN H'' t4=>?_⟩;dsimp only;rw[if_neg K7];obtain⟨hD4,n04,no4⟩:=t4.f6 hD2 n02 no3;have hp4:=fun q e=>t4.f6 (hp2 q e).1 (hp2 q e).2.1 (po3 q e);exact⟨ds.length-(i+1),by lia,qN,ρ4,uB,qM,t4.st,s3.trans t4.stp.s0,rfl,Cs,ec,hD4,ra3.mono t4.stp.s0,n04,Nat.le_succ_of_le hal,sp3.trans t4.stp fun a z=>.inl (ho3 a z),hσ3,fun a z=>ho3 a (t4.own a z),fun j z=>t4.dfn j (G7 j z),hp4⟩
  ·rename_i ρ4 e4;refine⟨H0',ρ3,true,ρ4,st3,e4,fun qN H'' t4=>?_⟩;dsimp only;rw[if_pos rfl];obtain⟨hD4,n04,no4⟩:=t4.f6 hD2 n02 no3;have hp4:=fun q e=>t4.f6 (hp2 q e).1 (hp2 q e).2.1 (po3 q e);split at ec
   ·cases ec
   rename_i x5 ρ5 e5;split at ec
   ·cases ec
   rename_i y6 ρ6 e6;refine⟨qN,ρ4,x5,ρ5,t4.st,e5,fun v H5 Hc t5 r5=>?_⟩;obtain⟨H6,t6,b6,r6,_,_⟩:=take1 t5 (ah.refl _) r5 e6;obtain⟨hD6,n06,no6⟩:=t6.f6 hD4 n04 no4;have hp6:=fun q e=>t6.f6 (hp4 q e).1 (hp4 q e).2.1 (hp4 q e).2.2;refine⟨qM,hD6,?_,ds.length-(i+1),by lia,H6,ρ6,uB++[y6],qM++[v],t6.st.aside n06 no6,(s3.trans t4.stp.s0).trans t6.stp.s0,rfl,Cs,ec,aq,?_,n06,?_,?_,hσ3,fun a z=>ho3 a (t4.own a (t6.own a z)),fun j z=>t6.dfn j (t4.dfn j (G7 j z)),fun q e=>⟨by rw[af (hpD q e)];exact(hp6 q e).1,(hp6 q e).2.1,(hp6 q e).2.2⟩⟩
   ·rw[ra.length];unfold Dm.SZ at hsz;exact MH (Nat.le_trans hal (Nat.le_trans (M5 Cs) hsz)) (by decide)
   ·exact((ra3.mono t4.stp.s0).mono t6.stp.s0).append (.cons r6 .nil)
   ·rw[KL,Me];lia
   ·exact((sp3.trans t4.stp fun a z=>.inl (ho3 a z)).trans t6.stp fun a z=>.inl (ho3 a (t4.own a z))).aside hD
 ·have e':i=ds.length:=by lia
  subst e';rw[MZ]at ec;cases ec;refine .inl ⟨js _ (Nat.le_refl _),k _ H0c H' ?_ ?_ fun q e=>⟨(hpc q e).1,(hpc q e).2.1⟩⟩
  ·have xR:σ.length<=ρ2.length:=by
    rw[<- sc.len];refine MB.mp fun z=>?_;have q:=hσ σ'.length z;rw[LX (Nat.le_refl _),KG z]at q;cases q
   have tk:∀{j:Nat} {c:Dm.Cell},(ρ2.take ρ1.length)[j]?=some c->j<σ.length/\ρ2[j]?=some c:=fun {j c} h=>by
    have hj:j<ρ1.length:=by
     have:=(pe.mp h).1;rw[Lh]at this
     lia
    rw[L0 hj]at h;exact⟨by rw[st1.len];exact hj,h⟩
   have own':∀a,ai σ (ρ2.take ρ1.length) a->ai σ' ρ2 a:=fun a ⟨j,d,h1,h2⟩=>by obtain⟨hj,h1⟩:=tk h1;exact⟨j,d,h1,(hσ j hj).trans h2⟩
   refine⟨⟨sc.same,?_,fun j d h=>?_,fun j d h=>?_,fun j j' d d' a h1 h2 h3 h4=>?_⟩,sp,fun a z=>ho a (own' a z),fun j z=>?_⟩
   ·rw[Lh,<- st1.len];lia
   ·obtain⟨hj,h⟩:=tk h;obtain⟨v,q,r⟩:=sc.sh j d h;exact⟨v,(hσ j hj).symm.trans q,r⟩
   ·obtain⟨hj,h⟩:=tk h;obtain⟨v,q,r⟩:=sc.ow j d h;exact⟨v,(hσ j hj).symm.trans q,r⟩
   ·obtain⟨hj,h1⟩:=tk h1;obtain⟨hj',h2⟩:=tk h2;exact sc.dis j j' d d' a h1 h2 ((hσ j hj).trans h3) ((hσ j' hj').trans h4)
   ·trivial
  ·refine⟨D,rfl,hD,fun⟨j,d,h1,h2⟩=>?_,n0,qM,hDl,ra⟩;have hj:j<ρ1.length:=by
    have:=(pe.mp h1).1;rw[Lh]at this
    lia
   rw[L0 hj]at h1;exact nOc ⟨j,d,h1,(hσ j (by rw[st1.len];exact hj)).trans h2⟩
theorem qO{own:Nat}{t:FT}{el:FE}(hb:BD is g bd)(hl:∀i∈is,σ.length<=i)(h:tD (Dm.cB fi own bd t el) σ H Q) :
  tLC (tDI fi) own g (tDT t) (tD el) σ H Q:=by
 obtain⟨H0,ρ,x,ρ',st,e,k⟩:=h;unfold Dm.cB at e;split at e
 ·cases e
 rename_i ds ρ1 e1;split at e
 case isFalse=>cases e
 rename_i hsz;split at e
 ·cases e
 rename_i ys ρ2 e2;cases e;refine⟨H0,ρ,ds,ρ1,st,e1,fun J H00 Hb t1 jw D hD=>pD (pa:=none) hb hl t1.st (fun q e=>by cases e) (fun H0 H s0 s1 _=>jw H0 H s0 s1) hsz e2 (fun v H0' H' t2 r2 _=>k v H0' H' (t1.trans t2) (r2.early fun a n=>t1.stp.gone n)) D hD⟩
theorem nH{H:Hp}(h:spD (Dm.fn n m body) vs H Q E):vs.length=n:=by
 obtain⟨H0,ds,z,s,rs,e,k⟩:=h;unfold Dm.fn at e;split at e
 ·rename_i hl;rw[rs.length];exact hl
 ·cases e
theorem D8{N:List Str}(hm:N.length=n+m)(h:spD (Dm.fn n m body) vs H Q E) :
  tDS body { nx:=fun _ H'=>Q .non H',rt:=Q } (start N vs) H:=by
 have hvn:=nH h;obtain⟨H0,ds,z,s,rs,e,k⟩:=h;have hl:=rs.length;have no:∀a,¬ai (start N vs) (ds.map Dm.Cell.sh++Dk m .un) a:=fun a ⟨i,d,h1,_⟩=>by
  by_cases hi:i<ds.length
  ·rw[KH (by simpa using hi),KZ]at h1;cases q:ds[i]? with
   |none=>rw[q]at h1;cases h1
   |some y=>rw[q]at h1;cases h1
  ·rw[KI (by simpa using hi),Lm]at h1;split at h1<;>cases h1
 have st:ak H0 H (start N vs) (ds.map Dm.Cell.sh++Dk m .un):=by
  refine⟨s,?_,fun i d h=>?_,fun i d h=>?_,fun i j d e a h1 h2 _ _=>?_⟩
  ·unfold L2.start;simp only[KL,gp,Mc]
   lia
  ·have hi:i<ds.length:=by
    by_cases hi:i<ds.length
    ·exact hi
    ·rw[KI (by simpa using hi),Lm]at h;split at h<;>cases h
   rw[KH (by simpa using hi),KZ]at h;cases q:ds[i]? with
   |none=>rw[q]at h;cases h
   |some y=>rw[q]at h;cases h;obtain⟨v,hv,r⟩:=rs.get q;refine⟨v,?_,r⟩;unfold L2.start;rw[KH (by simpa [hl] using hi),KZ,hv];rfl
  ·by_cases hi:i<ds.length
   ·rw[KH (by simpa using hi),KZ]at h;cases q:ds[i]? with
    |none=>rw[q]at h;cases h
    |some y=>rw[q]at h;cases h
   ·rw[KI (by simpa using hi),Lm]at h;split at h<;>cases h
  ·by_cases hi:i<ds.length
   ·rw[KH (by simpa using hi),KZ]at h1;cases q:ds[i]? with
    |none=>rw[q]at h1;cases h1
    |some y=>rw[q]at h1;cases h1
   ·rw[KI (by simpa using hi),Lm]at h1;split at h1<;>cases h1
 have gr:∀{H0' H'},Stp (ai (start N vs) (ds.map Dm.Cell.sh++Dk m .un)) H0 H H0' H'->ah H0' H'->aJ H0 H H0' H':=fun {H0' H'} t ss=>⟨t.s0,fun a o e=>t.s1 a o e (no a),fun a o e=>(t.s2 a o e).imp id fun q=>q.elim id fun z=>absurd z (no a),ss⟩
 unfold Dm.fn at e;rw[if_pos (by rw[<- hl];exact hvn)]at e;split at e
 ·rename_i r ρ' e1;cases e;refine⟨H0,_,_,st,e1,fun σ' v H0' H' t r _=>k v H0' H' (gr t.stp t.st.same) ?_⟩;cases z with
  |val d=>exact r
  |new d=>obtain⟨a,e,n,n0,w⟩:=r;exact⟨a,e,n.elim id fun z=>absurd z (no a),n0,w⟩
 ·rename_i ρ' e1;cases e;exact⟨H0,_,_,st,e1,fun σ' H0' H' t=>k _ H0' H' (gr t.stp t.st.same) .non⟩
 ·cases e
end
end
open PySem PySem.Spec PyProof.Rows L2
noncomputable def aW(X:Cx)(nm:List Str)(scope:Scope)(own:List Str)(cl:List (Str×Addr))(C:Addr)(s:Shared)(H:Hp)(fp:List Addr):Cx where
 prog:=X.prog
 w:=X.w
 K:=X.K
 mg:=X.mg
 base:=X.base
 A:=X.A
 N:=nm++own
 s₀:=s
 H₀:=H
 env:=compEnvC scope cl C X.env
 outer:=X.stack
 stack:=X.stack
 ex:=fp
 fn:=fun _=>false
 calm:=X.calm
 pn:=[]
 xe:=fun _ _=>False
def PTs(X:Cx)(Fq:List Expr)(t:TT):Prop:=
 ∀(jn:List (Addr×Obj)) (s:Shared) (σ:L2.St) (H:Hp) (Q:Bool->Hp->Prop),Inv X jn σ H s->t σ H Q ->
  wpAny (model X.prog X.w) X.A (forIn Fq true fun c r=>if r=true then do let ok <- isTrue c X.env (eval c X.env);pure (LJ ok) else pure (LJ r)) (TP X jn σ Q) X.xe s
def zF:TT:=fun _ H Q=>Q true H
theorem sD{X:Cx}:PTs X [] zF:=fun jn s σ H Q I h=>wpAny_tests_nil ⟨H,I,h⟩
theorem zG{X:Cx}{c:Expr}{t:TT}(h:PT X c t):PTs X [c] t:=fun jn s σ H Q I hq=>wpAny_tests_one (h jn s σ H Q I hq)
theorem dJ(env:Env):∀(names:List (Str×NameKind)) (cs:List (Str×Addr)),(∀y∈names,y.2=.free->∃c,env.cells.lookup y.1=some c) ->
  ∃cl,(forIn names cs fun(x:Str×NameKind) (r:List (Str×Addr))=>(if (x.2 == NameKind.free)=true then do let c <- cellOf env x.1;pure (LJ ((x.1,c)::r)) else pure (LJ r):Sem (ForInStep (List (Str×Addr)))))=pure cl /\
   (∀x c,cl.lookup x=some c->env.cells.lookup x=some c\/cs.lookup x=some c)/\(∀y∈names,y.2=.free->∃c,cl.lookup y.1=some c)/\(∀x c,cs.lookup x=some c->∃c',cl.lookup x=some c')
 |[],cs,_=>⟨cs,rfl,fun _ _ h=>.inr h,fun _ h=>(nomatch h),fun _ c h=>⟨c,h⟩⟩
 |(n,k)::r,cs,h=>by
  have hr:∀y∈r,y.2=.free->∃c,env.cells.lookup y.1=some c:=fun y hy=>h y (Kw _ hy);by_cases hk:k=.free
  ·subst hk;obtain⟨c,hc⟩:=h (n,.free) Kz rfl;obtain⟨cl,e,h1,h2,h3⟩:=dJ env r ((n,c)::cs) hr;refine⟨cl,?_,fun x c' q=>?_,fun y hy hf=>?_,fun x c' q=>?_⟩
   ·rw[NK];have e1:cellOf env n=pure c:=by unfold cellOf;rw[hc]
    simp only[beq_self_eq_true,if_true,e1,pure_bind];exact e
   ·rcases h1 x c' q with z | z
    ·exact .inl z
    ·rw[Ll]at z;cases hx:x == n with
     |true=>
      rw[hx]at z;have:x=n:=by simpa using hx
      subst this;injection z with z
      subst z;exact .inl hc
     |false=>rw[hx]at z;exact .inr z
   ·rcases KD.mp hy with rfl | hy
    ·exact h3 n c (by rw[Ll,beq_self_eq_true])
    ·exact h2 y hy hf
   ·by_cases hx:x=n
    ·subst hx;exact h3 x c (by rw[Ll,beq_self_eq_true])
    ·have hx':(x == n)=false:=by simpa using hx
     exact h3 x c' (by rw[Ll,hx'];exact q)
  ·have hb:(k == NameKind.free)=false:=by simpa using hk
   obtain⟨cl,e,h1,h2,h3⟩:=dJ env r cs hr;refine⟨cl,?_,h1,fun y hy hf=>?_,h3⟩
   ·rw[NK];simp only[hb,L7,if_false,pure_bind];exact e
   ·rcases KD.mp hy with rfl | hy
    ·exact absurd hf hk
    ·exact h2 y hy hf
theorem jT{env:Env}{scope:Scope}(h:∀y∈scope.names,y.2=.free->∃c,env.cells.lookup y.1=some c) :
  ∃cl,closureFor scope env=pure cl/\(∀x c,cl.lookup x=some c->env.cells.lookup x=some c)/\∀y∈scope.names,y.2=.free->∃c,cl.lookup y.1=some c:=by
 obtain⟨cl,e,h1,h2,_⟩:=dJ env scope.names [] h;refine⟨cl,?_,fun x c q=>(h1 x c q).elim id fun z=>by simp at z,h2⟩;unfold closureFor;have e':(forIn scope.names ([]:List (Str×Addr)) fun(x:Str×NameKind) (r:List (Str×Addr))=>(if (x.2 == NameKind.free)=true then do let c <- cellOf env x.1;pure (LJ ((x.1,c)::r)) else pure (LJ r):Sem (ForInStep (List (Str×Addr)))))=pure cl:=e
 first
  |(rw[show (forIn scope.names ([]:List (Str×Addr)) _:Sem (List (Str×Addr)))=pure cl from e'];rfl)
  |(simp only[e'];rfl)
theorem nI{prog:Program}{w:World}{A:Around}{R:Result->Shared->Prop}{s:Shared}{En target iter:Expr}{Fq:List Expr}{scope:Scope}{pos:Pos}{it AR:Value}{env:Env}(I:Nat->Shared->Prop)
  (turn:∀ n s,I n s→wpAny (model prog w) A (pyNext it) (fun r s₁=>match r with
   |none=>R (.ok .next) s₁
   | some v=>wpAny (model prog w) A (letOwnedTupleGo target it v) (fun _ s₁'=>wpAny (model prog w) A (assign target env v) (fun _ s₂=>
     wpAny (model prog w) A (forIn Fq true fun c r=>if r=true then do let ok ← isTrue c env (eval c env);pure (LJ ok) else pure (LJ r)) (fun ok s₃=>
      if ok=true then wpAny (model prog w) A (eval En env) (fun x s₄=>wpAny (model prog w) A (call (.builtin "list.append") [AR,x]) (fun _ s₅=>∃m,m<n/\I m s₅) (fun _ _=>False) s₄) (fun _ _=>False) s₃
      else ∃m,m<n/\I m s₃) (fun _ _=>False) s₂) (fun _ _=>False) s₁') (fun _ _=>False) s₁) (fun _ _=>False) s)
  (n:Nat) (h:I n s) :
  codeAny (model prog w) A (.compLoop (.ListComp En [⟨target,iter,Fq,0⟩] scope pos) 0 it AR env) R s:=by
 have no:∀{P:Value->Shared->Prop} (x:Value) (s':Shared),False->P x s':=fun _ _ f=>f.elim;refine codeAny_loop rfl I (fun n s hI=>?_) n h;show wpAny _ A ((compTurn (.ListComp En [⟨target,iter,Fq,0⟩] scope pos) 0 it AR env).onRaise (fun x=>do noteFrame x env;theTreesLotGoes x)) _ _ s;refine wpAny_noted ?_;rw[compTurn_list];refine wpAny_bind (wpAny_standAt (wpAny_bind (wpAny_mono (turn n s hI) (fun r s₁ h₁=>?_) no)));cases r with
 |none=>exact wpAny_pure h₁
 |some v=>
  refine wpAny_bind (wpAny_mono h₁ (fun _ s₁' h₁'=>?_) no);refine wpAny_bind (wpAny_mono h₁' (fun _ s₂ h₂=>wpAny_bind (wpAny_mono h₂ (fun ok s₃ h₃=>?_) no)) no);cases ok with
  |false=>exact wpAny_pure ⟨rfl,h₃⟩
  |true=>exact wpAny_bind (wpAny_bind (wpAny_mono h₃ (fun x s₄ h₄=>wpAny_bind (wpAny_mono h₄ (fun _ s₅ h₅=>wpAny_pure (wpAny_pure ⟨rfl,h₅⟩)) no)) no))
theorem cI(env:Env):∀(names:List (Str×NameKind)) (x:Str) (k:NameKind),
  (names.map fun(n,k)=>if (k == NameKind.free&&env.scope.kind == .function&&env.kindOf n == some .cell) then (n,NZ) else (n,k)).lookup x=some k ->
  ∃k0,names.lookup x=some k0/\(k=k0\/(k0=.free/\k=.cell))
 |[],x,k,h=>by simp at h
 |(n,k1)::r,x,k,h=>by
  have h:List.lookup x ((if (k1 == NameKind.free&&env.scope.kind == .function&&env.kindOf n == some .cell)=true then (n,NZ) else (n,k1))::r.map fun(n,k)=>if (k == NameKind.free&&env.scope.kind == .function&&env.kindOf n == some .cell) then (n,NZ) else (n,k))=some k:=h;cases hx:x == n with
  |true=>
   by_cases hc:(k1 == NameKind.free&&env.scope.kind == .function&&env.kindOf n == some .cell)=true
   ·rw[if_pos hc,Ll,hx]at h;injection h with h
    have hk:k1=.free:=by simp only[K5,beq_iff_eq]at hc;exact hc.1.1
    exact⟨k1,by rw[Ll,hx],.inr ⟨hk,h.symm⟩⟩
   ·rw[if_neg hc,Ll,hx]at h;injection h with h
    exact⟨k1,by rw[Ll,hx],.inl h.symm⟩
  |false=>
   by_cases hc:(k1 == NameKind.free&&env.scope.kind == .function&&env.kindOf n == some .cell)=true
   ·rw[if_pos hc,Ll,hx]at h;obtain⟨k0,e,z⟩:=cI env r x k h;exact⟨k0,by rw[Ll,hx];exact e,z⟩
   ·rw[if_neg hc,Ll,hx]at h;obtain⟨k0,e,z⟩:=cI env r x k h;exact⟨k0,by rw[Ll,hx];exact e,z⟩
structure cO(X:Cx)(nm:List Str)(scope:Scope):Prop where
 kind:scope.kind=.function
 cell:∀y∈scope.names,y.2≠.cell
 names:∀y∈scope.names,y.2=.local->scope.names.lookup y.1=some .local
 free:∀y∈scope.names,y.2=.free->X.env.kindOf y.1=some .cell\/X.env.kindOf y.1=some .free
 apart:∀x∈nm,scope.names.lookup x≠some .local
 len:nm.length=X.N.length
 mask:∀(i:Nat) (x:Str),nm[i]?=some x->X.N[i]?=some x\/scope.names.lookup x=none
section
variable{X:Cx}{nm:List Str}{En tg iter:Expr}{Fq:List Expr}{scope:Scope}{pos:Pos}{own:List Str}{wi:TI}{g:TG}{tt:TT}{te:TE}
theorem lU{jn:List (Addr×Obj)}{s2:Shared}{σ:L2.St}{H2:Hp}{cl:List (Str×Addr)}{it:Addr}{fp:List Addr}{tn:Nat->Heap->Prop}{J:It}{Q:VK}{E:Value->Shared->Prop}{RR:Value->Addr->Result->Shared->Prop}{CC:Cx->Prop}
  (hc:∀cl C s D fp,H2 D=none->CC (aW X nm scope own cl C s (upd H2 D (.lst [])) fp)) (S:cO X nm scope) (jU:∀x c,cl.lookup x=some c->X.env.cells.lookup x=some c) (uC:∀y∈scope.names,y.2=.free->∃c,cl.lookup y.1=some c)
  (hg:∀cl C s H fp,PG (aW X nm scope own cl C s H fp) tg g) (ht:∀cl C s H fp,PTs (aW X nm scope own cl C s H fp) Fq tt) (he:∀cl C s H fp,PE (aW X nm scope own cl C s H fp) En te)
  (I2:Inv X jn σ H2 s2) (T:Turn X.prog X.w X.K tg J fp it tn CC) (st2:tn 0 s2.heap) (f2:∀b∈fp,jK X jn H2 b)
  (hR:∀ D,H2 D=none→∃ W:Nat→Nat→L2.St→Hp→Prop,
   (∃m,W 0 m (σ++Dk own.length none) (upd H2 D (.lst [])))/\∀i m σ' H',W i m σ' H' ->
    (J.stop i H'∧Q (.ref D) H')∨(J.go i H'∧∀ x H2,J.yld i H' x H2→g x σ' H2 fun σ2 H3=>tt σ2 H3 fun b H4=>if b=true
     then te σ2 H4 fun y H5=>∃AR,H5 D=some (.lst AR)/\AR.length<sizeLine/\∃m',m'<m/\W (i+1) m' σ2 (upd H5 D (.lst (AR++[y])))
     else ∃m',m'<m/\W (i+1) m' σ2 H4))
  (Jz:∀D C H6 s6,Inv X jn σ H6 s6->H6 C=none->C≠X.env.locals->X.s₀.heap.objs.size<=C->(∀x c,X.env.cells.lookup x=some c->c≠C)->(∀p∈X.pn++jn,p.1≠C)->(∃m,s6.heap.Ns C m)->Q (.ref D) H6->RR (.ref D) C (.ok .next) s6) :
  wpAny (model X.prog X.w) X.A (newList []) (fun AR s₃=>wpAny (model X.prog X.w) X.A (newFunctionEnv scope X.env.globals cl [] X.env.qual none .none (some X.env)) (fun cenv s₄=>codeAny (model X.prog X.w) X.A (.compStart (.ListComp En [⟨tg,iter,Fq,0⟩] scope pos) 0 (.ref it) AR { cenv with scope:=relabel scope X.env }) (RR AR cenv.locals) s₄) E s₃) E s2:=by
 have no:∀{P:Value->Shared->Prop} (x:Value) (s':Shared),False->P x s':=fun _ _ f=>f.elim;refine wpAny_newObj_type (wpAny_newFunctionEnv S.cell (by intro y hy;simp at hy) (fun h₁ hns₁ hsb₁=>?_) S.kind);dsimp only at hns₁ hsb₁ ⊢;have I3:Inv X jn σ (upd H2 s2.heap.objs.size (.lst [])) { s2 with heap:=s2.heap.push { cls:=.type "list",dict:=none,data:=.seq ([]:List Value).toArray } }:=I2.DY (t':=s2.toks) (ys:=[]) (its:=[]) .nil (Lc _)
 generalize hG2:s2.heap.push { cls:=.type "list",dict:=none,data:=.seq ([]:List Value).toArray }=G2 at hns₁ hsb₁ I3 ⊢
 have hC:G2.objs.size=s2.heap.objs.size+1:=by rw[<- hG2,Mk]
 have up2:∀b o,s2.heap.get? b=some o->G2.get? b=some o:=fun b o e=>hG2▸Ds _ e;have up3:∀b o,G2.get? b=some o->h₁.get? b=some o:=fun b o e=>hsb₁.extBut b o (KP (KC e)) (Ds _ e);have JA:G2.get? G2.objs.size=none:=M6 (Nat.le_refl _);have fpo:∀b∈fp,∃o,s2.heap.get? b=some o:=fun b hb=>by obtain⟨o,e,_⟩:=T.obj 0 _ st2 b hb;exact⟨o,e⟩
 have fpC:∀b∈fp,b≠G2.objs.size:=fun b hb=>by obtain⟨o,e⟩:=fpo b hb;exact KP (KC (up2 b o e))
 have H3C:(upd H2 s2.heap.objs.size (.lst [])) G2.objs.size=none:=I3.hok.fresh (Nat.le_refl _);have fpD:∀b∈fp,b≠s2.heap.objs.size:=fun b hb=>by obtain⟨o,e⟩:=fpo b hb;exact KP (KC e)
 have G8:∀b∈fp,b∉frs X.stack:=fun b hb z=>by
  rcases KD.mp (I3.m8 b z) with y | y
  ·exact(f2 b hb).2.1 y
  ·exact(f2 b hb).2.2.1 y
 have ok':(aW X nm scope own cl G2.objs.size { s2 with heap:=G2 } (upd H2 s2.heap.objs.size (.lst [])) fp).Ok:=by
  refine ⟨I3.ok.mod,S.kind,I3.ok.glob,I3.ok.blt,Nat.le_refl _,fun x y c e1 e2=>I3.ok.inj x y c (jU x c e1) (jU y c e2),fun x hx=>?_,fun x c z=>(nomatch z),I3.ok.hd,I3.ok.frames,.inl rfl,
   fun b hb=>⟨fpC b hb,fun x c e=>(f2 b hb).2.2.2.2.1 x c (jU x c e)⟩,fun b o e=>I3.bs b o e,Nat.le_trans I3.ok.bsz I3.sz,fun b o e hb=>?_,fun b hb=>G8 b hb,I3.stack,I3.rW⟩
  ·have hx:(relabel scope X.env).names.lookup x=some .cell\/(relabel scope X.env).names.lookup x=some .free:=hx;have key:∀k,(relabel scope X.env).names.lookup x=some k->k≠.local->k=.cell\/k=.free->∃c,cl.lookup x=some c:=fun k hk _ hkk=>by
    obtain⟨k0,e0,z⟩:=cI X.env scope.names x k hk;have m0:=PySem.mem_of_lookup e0;have f0:k0=.free:=by
     rcases z with z | z
     ·subst z;rcases hkk with q | q
      ·exact absurd q (S.cell _ m0)
      ·exact q
     ·exact z.1
    exact uC (x,k0) m0 f0
   rcases hx with hx | hx
   ·exact key _ hx (by decide) (.inl rfl)
   ·exact key _ hx (by decide) (.inr rfl)
  ·rcases (f2 b hb).2.2.2.1 with z | z
   ·exact I3.ok.vt b o e z
   ·exact absurd (KN (KC e) (Nat.le_trans I3.ok.bsz z)) (Ls _)
 have stat:∀{H':Hp},(∀b∈fp,H' b=none)->∀b∈fp,jK (aW X nm scope own cl G2.objs.size { s2 with heap:=G2 } (upd H2 s2.heap.objs.size (.lst [])) fp) [] H' b:=fun hn b hb=>⟨hn b hb,fpC b hb,G8 b hb,.inl hb,fun x c e=>(f2 b hb).2.2.2.2.1 x c (jU x c e),fun p hp=>(nomatch (show p∈([]:List (Addr×Obj)) from hp))⟩
 have I4:Inv (aW X nm scope own cl G2.objs.size { s2 with heap:=G2 } (upd H2 s2.heap.objs.size (.lst [])) fp) [] (σ++Dk own.length none) (upd H2 s2.heap.objs.size (.lst [])) { s2 with heap:=h₁,toks:=s2.toks+([]:List (Str×Value)).length }:=by
  refine⟨ok',rfl,I3.bare,Un.kept up3,⟨_,hns₁,fun i x v e1 e2 e3=>?_⟩,fun x c e=>?_,H3C,fun x c e=>I3.eT x c (jU x c e),fun p hp=>(nomatch (show p∈([]:List (Addr×Obj)) from hp)),I3.hok.kept up3,?_⟩
  ·have e1:(nm++own)[i]?=some x:=e1;have hi:i<σ.length:=by
    by_cases hi:i<σ.length
    ·exact hi
    ·rw[KI (MB.mp hi),Lm]at e2;split at e2<;>cases e2
   rw[KH hi]at e2;rw[KH (by rw[S.len,<- I3.len];exact hi)]at e1;have key:∀k,(relabel scope X.env).names.lookup x=some k->k=.local\/k=.cell\/k=.free->scope.names.lookup x=some .free/\(k=.cell\/k=.free):=fun k hk hkk=>by
    obtain⟨k0,e0,z⟩:=cI X.env scope.names x k hk;have m0:=PySem.mem_of_lookup e0;have n1:k0≠.local:=fun y=>S.apart x (M7 e1) (y▸e0);have n2:k0≠.cell:=S.cell _ m0;rcases z with z | z
    ·subst z;rcases hkk with q | q | q
     ·exact absurd q n1
     ·exact absurd q n2
     ·subst q;exact⟨e0,.inr rfl⟩
    ·obtain⟨z1,z2⟩:=z;subst z1;subst z2;exact⟨e0,.inl rfl⟩
   have hk:∃k,(relabel scope X.env).names.lookup x=some k/\(k=.cell\/k=.free)/\scope.names.lookup x=some .free:=by
    rcases (show (relabel scope X.env).names.lookup x=some .local\/(relabel scope X.env).names.lookup x=some .cell\/(relabel scope X.env).names.lookup x=some .free from e3) with q | q | q
    ·obtain⟨a,b⟩:=key _ q (.inl rfl);exact⟨_,q,b,a⟩
    ·obtain⟨a,b⟩:=key _ q (.inr (.inl rfl));exact⟨_,q,b,a⟩
    ·obtain⟨a,b⟩:=key _ q (.inr (.inr rfl));exact⟨_,q,b,a⟩
   obtain⟨k,hk1,hk2,hk3⟩:=hk;have m0:=PySem.mem_of_lookup hk3;obtain⟨c,hcc⟩:=uC (x,.free) m0 rfl;obtain⟨m,hn,hl⟩:=I3.loc;have hout:=S.free (x,.free) m0 rfl;have JB:Vis X.env.scope x:=by
    rcases hout with q | q
    ·exact .inr (.inl q)
    ·exact .inr (.inr q)
   have e1':X.N[i]?=some x:=by
    rcases S.mask i x e1 with z | z
    ·exact z
    ·rw[z]at hk3;cases hk3
   obtain⟨u,ru,lk⟩:=hl i x v e1' e2 JB;refine⟨u,ru,.inr ⟨?_,c,hcc,?_⟩⟩
   ·rcases hk2 with q | q
    ·subst q;exact .inl hk1
    ·subst q;exact .inr hk1
   ·rcases lk with⟨q,_⟩ | ⟨_,c',e',z⟩
    ·rcases hout with y | y
     ·rw[q]at y;cases y
     ·rw[q]at y;cases y
    ·rw[jU x c hcc]at e';cases e';obtain⟨o,ho,hd⟩:=z;exact⟨o,up3 c o ho,hd⟩
  ·obtain⟨v,o,ho,hd⟩:=I3.cell x c (jU x c e);exact⟨v,o,up3 c o ho,hd⟩
  ·show (σ++Dk own.length none).length=(nm++own).length;rw[KL,KL,Mc,I3.len,S.len]
 obtain⟨W,⟨m0,w0⟩,turn⟩:=hR s2.heap.objs.size I2.fresh;have st4:tn 0 h₁:=T.keep 0 _ _ st2 fun b hb o e=>up3 b o (up2 b o e);have JC:∀b∈fp,(upd H2 s2.heap.objs.size (.lst [])) b=none:=fun b hb=>by rw[af (fpD b hb)];exact(f2 b hb).1
 have loop:∀s₃:Shared,s₃={ s2 with heap:=h₁,toks:=s2.toks+([]:List (Str×Value)).length } ->
   codeAny (model X.prog X.w) X.A (.compLoop (.ListComp En [⟨tg,iter,Fq,0⟩] scope pos) 0 (.ref it) (.ref s2.heap.objs.size) (compEnvC scope cl G2.objs.size X.env))
    (RR (.ref s2.heap.objs.size) G2.objs.size) s₃:=by
  rintro s₃ rfl;refine nI (fun n s'=>∃i σ' H',Inv (aW X nm scope own cl G2.objs.size { s2 with heap:=G2 } (upd H2 s2.heap.objs.size (.lst [])) fp) [] σ' H' s'/\tn i s'.heap/\(∀b∈fp,H' b=none)/\W i n σ' H') ?_ m0
   ⟨0,_,_,I4,st4,JC,w0⟩
  rintro n s5 ⟨i,σ5,H5,I5,st5,fr5,w5⟩;rcases turn i n σ5 H5 w5 with⟨stop,q⟩ | ⟨go,step⟩
  ·refine wpAny_mono (T.done (aW X nm scope own cl G2.objs.size { s2 with heap:=G2 } (upd H2 s2.heap.objs.size (.lst [])) fp) rfl rfl rfl (hc _ _ _ _ _ (I2.hok.fresh (Nat.le_refl _))) i [] s5 σ5 H5 (fun _ _=>False) I5 (stat fr5) st5 stop) (fun r s6 hr6=>?_) no;obtain⟨hr,I6⟩:=hr6;subst hr;have I7:Inv X jn σ H5 s6:=I3.Gv (ch:=fp) I6.os I6.base I6.hok I6.bare fun b hb=>⟨(f2 b hb).2.2.2.1,(f2 b hb).2.1,(f2 b hb).2.2.2.2.1,(f2 b hb).2.2.2.2.2⟩;refine Jz _ _ H5 s6 I7 I6.free (LM (show X.env.locals<G2.objs.size from I3.lt)) I3.sz (fun x c e=>?_) (fun p hp=>?_) (let ⟨m,hn,_⟩:=I6.loc;⟨m,hn⟩) q
   ·obtain⟨v,z⟩:=I3.cell x c e;exact KP z.lt
   ·exact KP (KC (I3.pin p hp).1)
  ·refine wpAny_mono (T.item (aW X nm scope own cl G2.objs.size { s2 with heap:=G2 } (upd H2 s2.heap.objs.size (.lst [])) fp) rfl rfl rfl (hc _ _ _ _ _ (I2.hok.fresh (Nat.le_refl _))) i [] s5 σ5 H5 (fun _ _=>False) I5 (stat fr5) st5 go) (fun r s6 hr6=>?_) no;obtain⟨u,hr,h6⟩:=hr6;subst hr;refine wpAny_mono h6 (fun _ s7 h7=>?_) no;obtain⟨x,H7,I7,r7,y7,st7,fr7⟩:=h7;have I7':=I7.pinned (stat fr7) (T.obj _ _ st7);have again:∀{s9:Shared} {σ9:L2.St} {H9:Hp} {m':Nat},m'<n->Inv (aW X nm scope own cl G2.objs.size { s2 with heap:=G2 } (upd H2 s2.heap.objs.size (.lst [])) fp) ([]++jL fp s7.heap) σ9 H9 s9->W (i+1) m' σ9 H9 ->
     ∃m,m<n/\∃i σ' H',Inv (aW X nm scope own cl G2.objs.size { s2 with heap:=G2 } (upd H2 s2.heap.objs.size (.lst [])) fp) [] σ' H' s9/\tn i s9.heap/\(∀b∈fp,H' b=none)/\W i m σ' H':=fun {s9 σ9 H9 m'} hm I9 w9=>by
    refine⟨m',hm,i+1,σ9,H9,I9.gP,T.keep _ _ _ st7 fun b hb o e=>(I9.pin (b,o) (KQ _ (KQ _ (dW hb e)))).1,fun b hb=>?_,w9⟩;obtain⟨o,e,d⟩:=T.obj _ _ st7 b hb;exact(I9.pin (b,o) (KQ _ (KQ _ (dW hb e)))).2.1
   refine wpAny_mono (hg cl G2.objs.size _ _ fp _ s7 σ5 H7 x u _ I7' r7 (step x H7 y7)) (fun _ s8 h8=>?_) no;obtain⟨σ8,H8,I8,q8⟩:=h8;refine wpAny_mono (ht cl G2.objs.size _ _ fp _ s8 σ8 H8 _ I8 q8) (fun b s9 h9=>?_) no;obtain⟨H9,I9,q9⟩:=h9;cases b with
   |false=>rw[if_neg K7]at q9 ⊢;obtain⟨m',hm,w9⟩:=q9;exact again hm I9 w9
   |true=>rw[if_pos rfl]at q9 ⊢;refine wpAny_mono (he cl G2.objs.size _ _ fp _ s9 σ8 H9 _ I9 q9) (fun y s10 h10=>?_) no;obtain⟨yv,H10,I10,r10,AR,hacc,xR,m',hm,w10⟩:=h10;refine wpAny_mono (iO (X:=aW X nm scope own cl G2.objs.size { s2 with heap:=G2 } (upd H2 s2.heap.objs.size (.lst [])) fp) _ s10 σ8 H10 (.ref s2.heap.objs.size) [yv] (.ref s2.heap.objs.size) [y] (fun _ H'=>H'=upd H10 s2.heap.objs.size (.lst (AR++[yv]))) I10 rfl (.cons r10 .nil) ⟨_,AR,yv,rfl,rfl,hacc,xR,rfl⟩) (fun _ s11 h11=>?_) no;obtain⟨_,H11,I11,_,e11⟩:=h11;subst e11;exact again hm I11 w10
 exact codeAny_compStart_list (loop _ rfl) (T.self _ 0 _ _ _ st4 (loop _ rfl))
theorem sF(hc:X.calm=true)(S:cO X nm scope)(hi:PI X tg iter wi)
  (hg:∀cl C s H fp,PG (aW X nm scope own cl C s H fp) tg g) (ht:∀cl C s H fp,PTs (aW X nm scope own cl C s H fp) Fq tt) (he:∀cl C s H fp,PE (aW X nm scope own cl C s H fp) En te)
  (hs:∀x,foldedSetIterable iter X.env x=pure x:=by intro _;rfl):PE X (.ListComp En [⟨tg,iter,Fq,0⟩] scope pos) (tLC wi own.length g tt te):=by
 intro jn s σ H Q I h;obtain⟨cl,hclos,jU,uC⟩:=jT (env:=X.env) (scope:=scope) fun y hy hf=>I.ok.has y.1 (S.free y hy hf);rw[eval_ListComp];refine wpAny_comprehension_free (use:=none) rfl hs hclos S.kind S.names (thn (hi jn s σ H _ I h) fun v s1 h1=>thn h1 fun itv s2 h2=>?_);obtain⟨it,fp,tn,J,H2,e,I2,T,st2,f2,hR⟩:=h2;subst e;refine lU (Q:=Q) (RR:=fun AR C=>compPost (model X.prog X.w) X.A X.xe none (EP X jn σ Q) AR C) (fun _ _ _ _ _ _=>hc) S jU uC hg ht he I2 T st2 f2 hR ?_;intro D C H6 s6 I6 hCn hCL hCs hCc hCp hns q;obtain⟨m,hn⟩:=hns;refine⟨m,hn,fun h' hs'=>⟨.ref D,H6,I6.turned (t':=s6.toks) (fun b o hb e=>(hs'.2 b hb).trans e) hCn hCL (.inr hCs) hCc hCp,rfl,q⟩⟩
theorem eY{i:Nat}{y:Str}{py Ft:Pos}(hN:X.N.Nodup)(hi':X.N[i]?=some y)(hy:Loc X.env.scope y)(hc:X.calm=true)(S:cO X nm scope)(hi:PI X tg iter wi)
  (hg:∀cl C s H fp,PG (aW X nm scope own cl C s H fp) tg g) (ht:∀cl C s H fp,PTs (aW X nm scope own cl C s H fp) Fq tt) (he:∀cl C s H fp,PE (aW X nm scope own cl C s H fp) En te)
  (hsw:swapsWith (.ListComp En [⟨tg,iter,Fq,0⟩] scope pos) (some (.Name y py)) Ft.line X.env=pure true:=by rfl)
  (hs:∀x,foldedSetIterable iter X.env x=pure x:=by intro _;rfl) (hf:X.fn y=true\/X.env.scope.names.lookup y=some .local:=by trivial) :
  PS X (.Assign [.Name y py] (.ListComp En [⟨tg,iter,Fq,0⟩] scope pos) Ft) (ng (tLC wi own.length g tt te) (fY i)):=by
 intro jn s σ H Dn I h;obtain⟨cl,hclos,jU,uC⟩:=jT (env:=X.env) (scope:=scope) fun y hy hf=>I.ok.has y.1 (S.free y hy hf);rw[exec_Assign_Name_used _ _ _ _ hsw];refine wpAny_bind (wpAny_standAt (wpAny_bind ?_));show wpAny _ X.A (do let _ <- comprehension (.ListComp En [⟨tg,iter,Fq,0⟩] scope pos) scope X.env _ (newList []) false (eval iter X.env) (some (assign (.Name y py) X.env))) _ _ s;refine wpAny_bind (wpAny_mono (wpAny_comprehension_free (use:=some (assign (.Name y py) X.env)) (Q:=fun _ s'=>SP X jn Dn .next s') rfl hs hclos S.kind S.names
  (thn (hi jn s σ H _ I h) fun v s1 h1=>thn h1 fun itv s2 h2=>?_)) (fun _ s' hq=>wpAny_pure (wpAny_pure hq)) fun _ _ e=>e)
 obtain⟨it,fp,tn,J,H2,e,I2,T,st2,f2,hR⟩:=h2;subst e;refine lU (Q:=fun x H1=>fY i x σ H1 Dn.nx) (RR:=fun AR C=>compPost (model X.prog X.w) X.A X.xe (some (assign (.Name y py) X.env)) (fun _ s'=>SP X jn Dn .next s') AR C) (fun _ _ _ _ _ _=>hc) S jU uC hg ht he I2 T st2 f2 hR ?_;intro D C H6 s6 I6 hCn hCL hCs hCc hCp hns q;obtain⟨m,hn⟩:=hns;show wpAny _ X.A (assign (.Name y py) X.env (.ref D)) _ _ _;refine wpAny_assign_Name (lI I6 hN hi' hy (v:=.ref D) rfl (fun s7 I7 h7=>?_) hf);obtain⟨a,sb,ha⟩:=h7;have hCa:C≠a:=by
  rcases ha with ha | ha
  ·rw[ha];exact hCL
  ·exact Lg (hCc y a ha)
 refine⟨m,hn.sameBut sb hCa,fun h' hs'=>⟨_,H6,I7.turned (t':=s7.toks) (fun b o hb e=>(hs'.2 b hb).trans e) hCn hCL (.inr hCs) hCc hCp,q⟩⟩
end
mutual
noncomputable def toPy:Dat->PyData
 |.non=>.none
 |.bl b=>.bool b
 |.int i=>.int i
 |.str s=>.str ⟨s.toArray⟩
 |.tup xs=>.tuple (bV xs)
 |.lst xs=>.list (bV xs)
 |.dct _ _=>.dict []
 |.dcp _ _=>.dict []
 |.exc _=>.dict []
 |.eW _ _=>.dict []
 |.fn _=>.dict []
noncomputable def bV:List Dat->List PyData
 |[]=>[]
 |x::xs=>toPy x::bV xs
end
mutual
theorem gX:∀a b:Dat,LF (toPy a) (toPy b)=Dm.eqD a b
 |.non,b=>by cases b<;>simp[toPy,LF,Dm.eqD]
 |.bl x,b=>by cases b<;>simp[toPy,LF,Dm.eqD,Dm.b2i]
 |.int x,b=>by cases b<;>simp[toPy,LF,Dm.eqD,Dm.b2i]
 |.str x,b=>by
  cases b with
  |str y=>
   simp only[toPy,LF,Dm.eqD];rw[Bool.eq_iff_iff];simp only[beq_iff_eq];constructor
   ·intro h;have h:=congrArg (fun s:Str=>s.cps.toList) h
    simpa using h
   ·rintro rfl;rfl
  |_=>simp[toPy,LF,Dm.eqD]
 |.tup xs,b=>by
  cases b with
  |tup ys=>simp only[toPy,LF,Dm.eqD];exact iV xs ys
  |_=>simp[toPy,LF,Dm.eqD]
 |.lst xs,b=>by
  cases b with
  |lst ys=>simp only[toPy,LF,Dm.eqD];exact iV xs ys
  |_=>simp[toPy,LF,Dm.eqD]
 |.dct ks vs,b=>by cases b<;>simp[toPy,LF,Dm.eqD]
 |.dcp ks vs,b=>by cases b<;>simp[toPy,LF,Dm.eqD]
 |.exc C,b=>by cases b<;>simp[toPy,LF,Dm.eqD]
 |.eW C v,b=>by cases b<;>simp[toPy,LF,Dm.eqD]
 |.fn C,b=>by cases b<;>simp[toPy,LF,Dm.eqD]
theorem iV:∀a b:List Dat,Nq (bV a) (bV b)=Dm.gj a b
 |[],b=>by cases b<;>simp[bV,Nq,Dm.gj]
 |x::xs,b=>by
  cases b with
  |nil=>simp[bV,Nq,Dm.gj]
  |cons y ys=>simp only[bV,Nq,Dm.gj];rw[gX x y,iV xs ys]
end
theorem v_{s:List Nat}(h:(s.all fun c=>decide (c<128))=true):PyData.strOk ⟨s.toArray⟩=true:=by unfold PyData.strOk;rw[Array.all_eq_true'];intro c hc;have h1:=Lx.mp h c (by simpa using hc);have h2:c<128:=of_decide_eq_true h1;exact decide_eq_true (by lia)
theorem bW{P:Program}{w:World}{H:Hp}{h:Heap}(ok:HOk P w H h):∀(n:Nat),
  (∀(v:V) (d:Dat) (u:Value),Rep H v d->RelV v u->Dm.okD n d=true->∃as,Reads h u (toPy d) as/\(toPy d).canLay0=true/\(toPy d).depth<=n) /\
  (∀(vs:List V) (ds:List Dat) (us:List Value),av H vs ds->Vals vs us->ds.all (Dm.okD n)=true->∃as,ReadsAll h us (bV ds) as/\Nu (bV ds)=true/\Mf (bV ds)<=n):=by
 intro n
 induction n with
 |zero=>
  have one:∀(v:V) (d:Dat) (u:Value),Rep H v d->RelV v u->Dm.okD 0 d=true->∃as,Reads h u (toPy d) as/\(toPy d).canLay0=true/\(toPy d).depth<=0:=by
   intro v d u r rv k;cases r with
   |non=>cases rv;exact⟨_,.none,rfl,Nat.le_refl _⟩
   |bl b=>cases rv;exact⟨_,.bool b,rfl,Nat.le_refl _⟩
   |int i=>obtain⟨t,rfl⟩:=rv;exact⟨_,.int i t,rfl,Nat.le_refl _⟩
   |str s=>obtain⟨t,rfl⟩:=rv;exact⟨_,.str _ t,v_ k,Nat.le_refl _⟩
   |tup _ _=>cases k
   |lst _ _=>cases k
   |dct _ _ _=>cases k
   |dcp _ _ _=>cases k
   |exc _=>cases k
   |eW _ _=>cases k
   |fn _=>cases k
  refine⟨one,fun vs ds=>?_⟩
  induction ds generalizing vs with
  |nil=>intro us r rv _;cases r;cases rv;exact⟨_,.nil,rfl,Nat.le_refl _⟩
  |cons d ds ih=>
   intro us r rv k;cases r with
   |cons r rs=>
    cases rv with
    |cons q qs=>rw[MY,K5]at k;obtain⟨a1,h1,h2,h3⟩:=one _ _ _ r q k.1;obtain⟨a2,h4,h5,h6⟩:=ih _ _ rs qs k.2;exact⟨_,.cons h1 h4,by simp[bV,Nu,h2,h5],by simp only[bV,Mf];lia⟩
 |succ n ih=>
  have one:∀(v:V) (d:Dat) (u:Value),Rep H v d->RelV v u->Dm.okD (n+1) d=true->∃as,Reads h u (toPy d) as/\(toPy d).canLay0=true/\(toPy d).depth<=n+1:=by
   intro v d u r rv k;cases r with
   |non=>cases rv;exact⟨_,.none,rfl,Lc _⟩
   |bl b=>cases rv;exact⟨_,.bool b,rfl,Lc _⟩
   |int i=>obtain⟨t,rfl⟩:=rv;exact⟨_,.int i t,rfl,Lc _⟩
   |str s=>obtain⟨t,rfl⟩:=rv;exact⟨_,.str _ t,v_ k,Lc _⟩
   |tup q rs=>cases rv;obtain⟨z,its,vr,ob,e,hc,m,hd⟩:=ok _ _ q;obtain⟨as,h1,h2,h3⟩:=ih.2 _ _ _ rs vr k;exact⟨_,.tuple e hc hd h1,h2,by simp only[toPy,PyData.depth];lia⟩
   |lst q rs=>cases rv;obtain⟨z,its,m,vr,e⟩:=q.ok ok;obtain⟨as,h1,h2,h3⟩:=ih.2 _ _ _ rs vr k;exact⟨_,.list e rfl rfl h1,h2,by simp only[toPy,PyData.depth];lia⟩
   |dct _ _ _=>cases k
   |dcp _ _ _=>cases k
   |exc _=>cases k
   |eW _ _=>cases k
   |fn _=>cases k
  refine⟨one,fun vs ds=>?_⟩
  induction ds generalizing vs with
  |nil=>intro us r rv _;cases r;cases rv;exact⟨_,.nil,rfl,Lc _⟩
  |cons d ds ih=>
   intro us r rv k;cases r with
   |cons r rs=>
    cases rv with
    |cons q qs=>rw[MY,K5]at k;obtain⟨a1,h1,h2,h3⟩:=one _ _ _ r q k.1;obtain⟨a2,h4,h5,h6⟩:=ih _ _ rs qs k.2;exact⟨_,.cons h1 h4,by simp[bV,Nu,h2,h5],by simp only[bV,Mf];lia⟩
theorem jO.full{H0 H:Hp}(s:ah H0 H){v:V}{d:Dat}(r:jO H0 H v d):Rep H v d:=by
 rcases r with r | ⟨a,rfl,w⟩
 ·exact r.mono s
 ·cases d with
  |lst ds=>obtain⟨xs,q,rs⟩:=w;exact .lst (.inl q) (rs.mono s)
  |dct ks ds=>obtain⟨kvs,q,e,rs⟩:=w;exact .dct q e (rs.mono s)
  |dcp ks ds=>obtain⟨kvs,q,e,rs⟩:=w;exact .dcp q (e.mono s) (rs.mono s)
  |_=>exact K9 w
def zH(neg:Bool):R2:=fun x y H Q=>∃dx dy,Rep H x dx/\Rep H y dy/\Dm.okD 8 dx=true/\Dm.okD 8 dy=true/\Q (.bl (if neg then !Dm.eqD dx dy else Dm.eqD dx dy)) H
section
variable{X:Cx}
section
variable{k:Nat}
theorem wc(hr:aV k X.A):OpR X (compareOp .Eq) (zH false):=by intro jn s σ H x y v u Q I rx ry h;obtain⟨dx,dy,r1,r2,k1,k2,q⟩:=h;obtain⟨as,h1,h2,h3⟩:=(bW I.hok 8).1 x dx v r1 rx k1;obtain⟨bs,h4,h5,h6⟩:=(bW I.hok 8).1 y dy u r2 ry k2;have hu:=hr.units;refine PySem.SeqAt.compareEq_reads h1 h4 h2 h5 (by lia) ?_;rw[gX];exact⟨.bl (Dm.eqD dx dy),H,I,rfl,q⟩
theorem D9(hr:aV k X.A):OpR X (compareOp .NotEq) (zH true):=by intro jn s σ H x y v u Q I rx ry h;obtain⟨dx,dy,r1,r2,k1,k2,q⟩:=h;obtain⟨as,h1,h2,h3⟩:=(bW I.hok 8).1 x dx v r1 rx k1;obtain⟨bs,h4,h5,h6⟩:=(bW I.hok 8).1 y dy u r2 ry k2;have hu:=hr.units;refine PySem.SeqAt.compareNe_reads h1 h4 h2 h5 (by lia) ?_;rw[gX];exact⟨.bl (!Dm.eqD dx dy),H,I,rfl,q⟩
def zI(neg:Bool):R2:=fun x y H Q=>∃dx ds,Rep H x dx/\(Rep H y (.lst ds)\/Rep H y (.tup ds))/\Dm.okD 8 dx=true/\ds.all (Dm.okD 7)=true/\Q (.bl (if neg then !Dm.inD dx ds else Dm.inD dx ds)) H
theorem eZ(x:Dat):∀ds:List Dat,((bV ds).any fun y=>LF y (toPy x))=Dm.inD x ds
 |[]=>rfl
 |d::ds=>by have:=eZ x ds;unfold Dm.inD at this ⊢;simp only[bV,List.any_cons,gX];rw[this]
theorem D_(hr:aV k X.A):OpR X (compareOp .In) (zI false):=by
 intro jn s σ H x y v u Q I rx ry h;obtain⟨dx,ds,r1,r2,k1,k2,q⟩:=h;obtain⟨as,h1,h2,h3⟩:=(bW I.hok 8).1 x dx v r1 rx k1;have hu:=hr.units;rcases r2 with r2 | r2
 ·obtain⟨bs,h4,h5,h6⟩:=(bW I.hok 8).1 y (.lst ds) u r2 ry k2;have h6:Mf (bV ds)+1<=8:=h6;refine PySem.SeqAt.in_list_reads h4 h1 h5 h2 (by lia) ?_;rw[eZ];exact⟨.bl (Dm.inD dx ds),H,I,rfl,q⟩
 ·obtain⟨bs,h4,h5,h6⟩:=(bW I.hok 8).1 y (.tup ds) u r2 ry k2;have h6:Mf (bV ds)+1<=8:=h6;refine PySem.SeqAt.in_tuple_reads h4 h1 h5 h2 (by lia) ?_;rw[eZ];exact⟨.bl (Dm.inD dx ds),H,I,rfl,q⟩
theorem uD(hr:aV k X.A):OpR X (compareOp .NotIn) (zI true):=by
 intro jn s σ H x y v u Q I rx ry h;obtain⟨dx,ds,r1,r2,k1,k2,q⟩:=h;obtain⟨as,h1,h2,h3⟩:=(bW I.hok 8).1 x dx v r1 rx k1;have hu:=hr.units;rcases r2 with r2 | r2
 ·obtain⟨bs,h4,h5,h6⟩:=(bW I.hok 8).1 y (.lst ds) u r2 ry k2;have h6:Mf (bV ds)+1<=8:=h6;refine PySem.SeqAt.notIn_list_reads h4 h1 h5 h2 (by lia) ?_;rw[eZ];exact⟨.bl (!Dm.inD dx ds),H,I,rfl,q⟩
 ·obtain⟨bs,h4,h5,h6⟩:=(bW I.hok 8).1 y (.tup ds) u r2 ry k2;have h6:Mf (bV ds)+1<=8:=h6;refine PySem.SeqAt.notIn_tuple_reads h4 h1 h5 h2 (by lia) ?_;rw[eZ];exact⟨.bl (!Dm.inD dx ds),H,I,rfl,q⟩
end
end
section
variable{H0 H:Hp}{ds:List Dat}{v:V}
theorem ay{i:Int}(r:jO H0 H v (.int i)):v=.int i:=by
 rcases r with r | ⟨a,_,w⟩
 ·exact Rep.isInt r
 ·exact K9 w
theorem zJ{b:Bool}(r:jO H0 H v (.bl b)):v=.bl b:=by
 rcases r with r | ⟨a,_,w⟩
 ·exact Rep.nF r
 ·exact K9 w
theorem bI(s:ah H0 H)(r:jO H0 H v (.lst ds)):∃a xs,v=.ref a/\Rd H a (.lst xs)/\av H0 xs ds:=by
 rcases r with r | ⟨a,e,xs,q,rs⟩
 ·cases r with
  |lst q rs=>exact⟨_,_,rfl,ah.rd s q,rs⟩
 ·exact⟨a,xs,e,.inl q,rs⟩
theorem e7(s:ah H0 H)(r:jO H0 H v (.tup ds)):∃a xs,v=.ref a/\H a=some (.tup xs)/\av H0 xs ds:=by
 rcases r with r | ⟨a,_,w⟩
 ·cases r with
  |tup q rs=>exact⟨_,_,rfl,s _ _ q,rs⟩
 ·exact K9 w
theorem Ea:OpD (rI0 fun i j=>.int (i-j)) Dm.iM:=by
 intro H0 H x y dx dy z Q s rx ry e k;unfold Dm.iM at e;split at e
 ·cases e;cases ay rx;cases ay ry;exact⟨_,_,rfl,rfl,k _ H0 H (aJ.refl s) (.int _)⟩
 ·cases e
theorem BU:OpD (rI0 fun i j=>.bl (decide (i<j))) Dm.gLt:=by
 intro H0 H x y dx dy z Q s rx ry e k;unfold Dm.gLt at e;split at e
 ·cases e;cases ay rx;cases ay ry;exact⟨_,_,rfl,rfl,k _ H0 H (aJ.refl s) (.bl _)⟩
 ·cases e
theorem sG:OpD (rI0 fun i j=>.bl (decide (i<=j))) Dm.gLe:=by
 intro H0 H x y dx dy z Q s rx ry e k;unfold Dm.gLe at e;split at e
 ·cases e;cases ay rx;cases ay ry;exact⟨_,_,rfl,rfl,k _ H0 H (aJ.refl s) (.bl _)⟩
 ·cases e
theorem BV:OpD (rI0 fun i j=>.bl (decide (j<i))) Dm.gGt:=by
 intro H0 H x y dx dy z Q s rx ry e k;unfold Dm.gGt at e;split at e
 ·cases e;cases ay rx;cases ay ry;exact⟨_,_,rfl,rfl,k _ H0 H (aJ.refl s) (.bl _)⟩
 ·cases e
theorem G9:OpD (rI0 fun i j=>.bl (decide (j<=i))) Dm.gGe:=by
 intro H0 H x y dx dy z Q s rx ry e k;unfold Dm.gGe at e;split at e
 ·cases e;cases ay rx;cases ay ry;exact⟨_,_,rfl,rfl,k _ H0 H (aJ.refl s) (.bl _)⟩
 ·cases e
theorem Eb:OpD (rI (fun _ j=>0<j) fun i j=>.int (i % j)) Dm.fV:=by
 intro H0 H x y dx dy z Q s rx ry e k;unfold Dm.fV at e;split at e
 ·split at e
  ·rename_i hj;cases e;cases ay rx;cases ay ry;exact⟨_,_,rfl,rfl,hj,k _ H0 H (aJ.refl s) (.int _)⟩
  ·cases e
 ·cases e
theorem Ec:OpD (rI GC fun i j=>.int (i ^ j.toNat)) Dm.gv:=by
 intro H0 H x y dx dy z Q s rx ry e k;unfold Dm.gv at e;split at e
 ·split at e
  ·rename_i hj;cases e;cases ay rx;cases ay ry;exact⟨_,_,rfl,rfl,⟨hj.1,hj.2.1,Nat.lt_trans hj.2.2 (by decide)⟩,k _ H0 H (aJ.refl s) (.int _)⟩
  ·cases e
 ·cases e
end
section
variable{X:Cx}
def BW(i j:Int):Prop:=0<j/\j<Dm.gu
theorem we:OpR X (binaryOp .FloorDiv) (rI BW fun i j=>.int (i / j)):=opI fun i j _ _ _ _ _ hc q=>by
 have h:j.natAbs.log2<9000:=by
  have h1:j.natAbs<2 ^ 200:=by
   have:=hc.2;unfold Dm.gu at this;have h2:=hc.1;have e:(2:Nat) ^ 200=1606938044258990275541962092341162602522202993782792835301376:=by decide +kernel
   omega
  have h3:j.natAbs≠0:=by have:=hc.1;omega
  have:=(Nat.log2_lt h3).mpr h1;omega
 have e:i.fdiv j=i / j:=Int.fdiv_eq_ediv_of_nonneg i (Int.le_of_lt hc.1);rw[<- e]at q;exact floordiv_int (Int.ne_of_gt hc.1) q (.inl (PyProof.noPylong_of_log2 h))
end
theorem Ed:OpD (rI BW fun i j=>.int (i / j)) Dm.uy:=by
 intro H0 H x y dx dy z Q s rx ry e k;unfold Dm.uy at e;split at e
 ·split at e
  ·rename_i hj;cases e;cases ay rx;cases ay ry;exact⟨_,_,rfl,rfl,hj,k _ H0 H (aJ.refl s) (.int _)⟩
  ·cases e
 ·cases e
theorem Ef:UnD (rU fun i=>.int (-i)) Dm.zz:=by
 intro H0 H x dx z Q s rx e k;unfold Dm.zz at e;split at e
 ·cases e;cases ay rx;exact⟨_,rfl,k _ H0 H (aJ.refl s) (.int _)⟩
 ·cases e
def wg:R2:=fun x y H Q=>∃l b xs zs,x=.ref l/\y=.ref b/\Rd H l (.lst xs)/\Rd H b (.lst zs)/\xs.length+zs.length<=sizeLine/\∀p,H p=none->Q (.ref p) (upd H p (.lst (xs++zs)))
def wj:R2:=fun x y H Q=>∃l k xs,x=.ref l/\y=.int k/\Rd H l (.lst xs)/\-(2 ^ 63)<=k/\k<2 ^ 63/\xs.length*k.toNat<=sizeLine /\
 ∀p,H p=none->Q (.ref p) (upd H p (.lst (Dk k.toNat xs).flatten))
section
variable{X:Cx}
theorem zK:OpR X (binaryOp .Add) wg:=by
 intro jn s σ H x y v u Q I rx ry h;obtain⟨l,b,xs,zs,rfl,rfl,hH,hB,hz,q⟩:=h;cases rx;cases ry;obtain⟨z,its,n,r,e⟩:=hH.ok I.hok;obtain⟨z2,its2,n2,r2,e2⟩:=hB.ok I.hok;have hl:=r.length;have hl2:=r2.length;refine PySem.P.add_list e e2 ?_ (by rw[Ky,Ky];lia);have ea:its.toArray++its2.toArray=(its++its2).toArray:=by simp
 rw[ea];exact⟨.ref _,_,I.DY (t':=s.toks) (r.append r2) (by rw[KL];lia),rfl,q _ I.fresh⟩
theorem zL:OpR X (binaryOp .Mult) wj:=by
 intro jn s σ H x y v u Q I rx ry h;obtain⟨l,k,xs,rfl,rfl,hH,h1,h2,hz,q⟩:=h;cases rx;obtain⟨t,rfl⟩:=ry;obtain⟨z,its,n,r,e⟩:=hH.ok I.hok;have hl:=r.length;have xR:its.toArray.size*k.toNat<=sizeLine:=by rw[Ky,<- hl];exact hz
 have hcap:¬its.toArray.size*k.toNat>(2 ^ 63-1) / 8:=by
  have:(sizeLine:Nat)<=(2 ^ 63-1) / 8:=by decide
  lia
 have hfit:¬(!Builtin.List.listFitsIndex k)=true:=by rw[fitsIndex_both h1 h2];exact K7
 have G_:¬MG (its.toArray.size*k.toNat)=true:=by rw[vS xR];exact K7
 have hnew:N4 (fun x1 x2=>x1++x2) #[] (Dk (if its.toArray.isEmpty=true then 0 else k.toNat) its.toArray)=(Dk k.toNat its).flatten.toArray:=by
  have f0:∀m:Nat,N4 (fun x1 x2=>x1++x2) #[] (Dk m its.toArray)=(Dk m its).flatten.toArray:=fun m=>by have:=foldl_rep its m [];rw[LK]at this;exact this
  rw[f0];cases its with
  |nil=>simp
  |cons a r'=>rw[if_neg (by simp)]
 refine wpAny_binaryOp_repeat_ref (T := "list") (U := "int") (by decide) ⟨_,e,rfl⟩ (fun s'=>typeIs_int s' k t) noFill_list_mul F.fills_int_mul F.slot_int_rmul repeat_list F.slot_int_index.lookup
  (call_meets F.slot_int_rmul (typeIs_int s k t) F.entry_int_rmul (F.args_int_rmul_2 _ _) (int___rmul___int_list k t l its.toArray n)
   ⟨e,rfl,⟨_,e,rfl⟩,call_meets F.slot_list_mul ⟨_,e,rfl⟩ F.entry_list_mul (F.args_list_mul_2 _ _) (AutoListH.list___mul___list_int_3 l its.toArray n k t hfit hcap G_) ⟨e,?_⟩⟩)
 rw[hnew];exact⟨.ref _,_,I.DY (t':=s.toks) (r.rep k.toNat) (by rw[len_rep,Nat.mul_comm];exact hz),rfl,q _ I.fresh⟩
theorem zM:OpR X (binaryOp .Add) (fun x y H Q=>rI0 (fun i j=>.int (i+j)) x y H Q\/wg x y H Q):=Dw.or zK
theorem zN:OpR X (binaryOp .Mult) (fun x y H Q=>rI vJ (fun i j=>.int (i*j)) x y H Q\/wj x y H Q):=Dz.or zL
end
theorem Eg:OpD (fun x y H Q=>rI0 (fun i j=>.int (i+j)) x y H Q\/wg x y H Q) Dm.bO:=by
 intro H0 H x y dx dy z Q s rx ry e k;unfold Dm.bO at e;split at e
 ·cases e;cases ay rx;cases ay ry;exact .inl ⟨_,_,rfl,rfl,k _ H0 H (aJ.refl s) (.int _)⟩
 ·split at e
  ·rename_i hz;cases e;obtain⟨a,us,rfl,qa,ra⟩:=bI s rx;obtain⟨b,ws,rfl,qb,rb⟩:=bI s ry;refine .inr ⟨a,b,us,ws,rfl,rfl,qa,qb,by rw[ra.length,rb.length];exact fM hz,fun p hp=>?_⟩;exact k _ _ _ (aJ.lu s hp) ⟨p,rfl,hp,s.free hp,_,aq,ra.append rb⟩
  ·cases e
 ·cases e
theorem Eh:OpD (fun x y H Q=>rI vJ (fun i j=>.int (i*j)) x y H Q\/wj x y H Q) Dm.gk:=by
 intro H0 H x y dx dy z Q s rx ry e k;unfold Dm.gk at e;split at e
 ·split at e
  ·rename_i hj;cases e;cases ay rx;cases ay ry;exact .inl ⟨_,_,rfl,rfl,hj,k _ H0 H (aJ.refl s) (.int _)⟩
  ·cases e
 ·split at e
  ·rename_i hz;cases e;cases ay ry;obtain⟨a,us,rfl,qa,ra⟩:=bI s rx;obtain⟨h1,h2,h3⟩:=hz;unfold Dm.BIG at h1 h2;refine .inr ⟨a,_,us,rfl,rfl,qa,by lia,by lia,by rw[ra.length];exact fM h3,fun p hp=>?_⟩;exact k _ _ _ (aJ.lu s hp) ⟨p,rfl,hp,s.free hp,_,aq,ra.rep _⟩
  ·cases e
 ·cases e
theorem BX:OpD (zH false) Dm.gEq:=by
 intro H0 H x y dx dy z Q s rx ry e k;unfold Dm.gEq at e;split at e
 ·rename_i hk;rw[K5]at hk;cases e;exact⟨dx,dy,rx.full s,ry.full s,hk.1,hk.2,k _ H0 H (aJ.refl s) (.bl _)⟩
 ·cases e
theorem Hg:OpD (zH true) Dm.gNe:=by
 intro H0 H x y dx dy z Q s rx ry e k;unfold Dm.gNe at e;split at e
 ·rename_i hk;rw[K5]at hk;cases e;exact⟨dx,dy,rx.full s,ry.full s,hk.1,hk.2,k _ H0 H (aJ.refl s) (.bl _)⟩
 ·cases e
theorem Hh:OpD (zI false) Dm.gIn:=by
 intro H0 H x y dx dy z Q s rx ry e k;unfold Dm.gIn at e;split at e
 ·split at e
  ·rename_i hk;rw[K5]at hk;cases e;exact⟨dx,_,rx.full s,.inl (ry.full s),hk.1,hk.2,k _ H0 H (aJ.refl s) (.bl _)⟩
  ·cases e
 ·split at e
  ·rename_i hk;rw[K5]at hk;cases e;exact⟨dx,_,rx.full s,.inr (ry.full s),hk.1,hk.2,k _ H0 H (aJ.refl s) (.bl _)⟩
  ·cases e
 ·cases e
theorem wm:OpD (zI true) Dm.iR:=by
 intro H0 H x y dx dy z Q s rx ry e k;unfold Dm.iR at e;split at e
 ·split at e
  ·rename_i hk;rw[K5]at hk;cases e;exact⟨dx,_,rx.full s,.inl (ry.full s),hk.1,hk.2,k _ H0 H (aJ.refl s) (.bl _)⟩
  ·cases e
 ·split at e
  ·rename_i hk;rw[K5]at hk;cases e;exact⟨dx,_,rx.full s,.inr (ry.full s),hk.1,hk.2,k _ H0 H (aJ.refl s) (.bl _)⟩
  ·cases e
 ·cases e
theorem sI{H0:Hp}{xs:List V}{ds:List Dat}{i:Int}{d:Dat}(rs:av H0 xs ds)(e:Dm.atI ds i=some d):∃v,L2.atI xs i=some v/\Rep H0 v d:=by
 unfold Dm.atI at e;cases q:Dm.ixN ds.length i with
 |none=>rw[q]at e;cases e
 |some j=>rw[q]at e;obtain⟨v,hv,r⟩:=rs.get (i:=j) e;refine⟨v,?_,r⟩;unfold L2.atI;rw[rs.length];have q':L2.ixN ds.length i=some j:=q;rw[q'];exact hv
theorem Hi{K:gb}:OpD (fun x y H Q=>DR K x y H Q\/GG K x y H Q) Dm.gIx:=by
 intro H0 H x y dx dy z Q s rx ry e k;unfold Dm.gIx at e;split at e
 ·rename_i ds i;cases q:Dm.atI ds i with
  |none=>rw[q]at e;cases e
  |some d=>rw[q]at e;cases e;cases ay ry;obtain⟨a,us,rfl,qa,ra⟩:=bI s rx;obtain⟨v,hv,rv⟩:=sI ra q;exact .inl ⟨a,us,i,v,rfl,rfl,.inl qa,hv,k _ H0 H (aJ.refl s) rv⟩
 ·rename_i ds i;cases q:Dm.atI ds i with
  |none=>rw[q]at e;cases e
  |some d=>rw[q]at e;cases e;cases ay ry;obtain⟨a,us,rfl,qa,ra⟩:=e7 s rx;obtain⟨v,hv,rv⟩:=sI ra q;exact .inr ⟨a,us,i,v,rfl,rfl,.inl (.inl qa),hv,k _ H0 H (aJ.refl s) rv⟩
 ·cases e
theorem Ei{K:gb}:CallD (fun xs H Q=>∃p ys,xs=[.ref p]/\(SqL K H p ys\/SqT K H p ys)/\Q (.int ys.length) H) Dm.cV:=by
 intro H0 H vs ds z Q s rs e k;unfold Dm.cV at e;split at e
 ·cases e;cases rs with
  |cons r rr=>cases rr;obtain⟨a,us,rfl,qa,ra⟩:=bI s r;exact⟨a,us,rfl,.inl (.inl qa),k _ H0 H (aJ.refl s) (by rw[ra.length];exact .int _)⟩
 ·cases e;cases rs with
  |cons r rr=>cases rr;obtain⟨a,us,rfl,qa,ra⟩:=e7 s r;exact⟨a,us,rfl,.inr (.inl (.inl qa)),k _ H0 H (aJ.refl s) (by rw[ra.length];exact .int _)⟩
 ·cases e
theorem zO:CallD (fun xs H Q=>∃i j,xs=[.int i,.int j]/\Q (.int (if j<i then j else i)) H) Dm.i9:=by
 intro H0 H vs ds z Q s rs e k;unfold Dm.i9 at e;split at e
 ·cases e;cases rs with
  |cons r rr=>
   cases rr with
   |cons r' rr=>cases rr;cases ay r;cases ay r';exact⟨_,_,rfl,k _ H0 H (aJ.refl s) (.int _)⟩
 ·cases e
theorem zP:CallD (fun xs H Q=>∃i j,xs=[.int i,.int j]/\Q (.int (if j>i then j else i)) H) Dm.i_:=by
 intro H0 H vs ds z Q s rs e k;unfold Dm.i_ at e;split at e
 ·cases e;cases rs with
  |cons r rr=>
   cases rr with
   |cons r' rr=>cases rr;cases ay r;cases ay r';exact⟨_,_,rfl,k _ H0 H (aJ.refl s) (.int _)⟩
 ·cases e
theorem zQ{K:gb}:CallD (fun xs H Q=>∃p ys,xs=[.ref p]/\(SqL K H p ys\/SqT K H p ys)/\∀l,H l=none->Q (.ref l) (upd H l (.lst ys))) Dm.pq:=by
 intro H0 H vs ds z Q s rs e k;unfold Dm.pq at e;split at e
 ·cases e;cases rs with
  |cons r rr=>cases rr;obtain⟨a,us,rfl,qa,ra⟩:=bI s r;exact⟨a,us,rfl,.inl (.inl qa),fun p hp=>k _ _ _ (aJ.lu s hp) ⟨p,rfl,hp,s.free hp,_,aq,ra⟩⟩
 ·cases e;cases rs with
  |cons r rr=>cases rr;obtain⟨a,us,rfl,qa,ra⟩:=e7 s r;exact⟨a,us,rfl,.inr (.inl (.inl qa)),fun p hp=>k _ _ _ (aJ.lu s hp) ⟨p,rfl,hp,s.free hp,_,aq,ra⟩⟩
 ·cases e
noncomputable abbrev DS(X:Cx)(st:Stmt)(f:FS):Prop:=PS X st (tDS f)
noncomputable abbrev DSs(X:Cx)(st:List Stmt)(f:FS):Prop:=PSs X st (tDS f)
noncomputable abbrev DI(X:Cx)(tg it:Expr)(f:Dm.FI):Prop:=PI X tg it (tDI f)
theorem PI.weak{X:Cx}{tg it:Expr}{t t':TI}(h:PI X tg it t)(k:∀σ H R,t' σ H R->t σ H R):PI X tg it t':=fun jn s σ H R I q=>h jn s σ H R I (k σ H R q)
section
variable{X:Cx}{a b c e:Expr}{fa fb fc f:FE}{pos:Pos}
section
variable{g:Dat->Dat->Option RV}{r:List V->Hp->VK->Prop}{xN:List Expr}{k:Nat}{x:Str}{i:Int}
theorem d_v(i:Nat)(hN:X.N[i]?=some x:=by rfl)(hv:Vis X.env.scope x:=by trivial)(hd:(x == ("__debug__" : Str))=false:=by decide)
  (FG:(x == ("__classdict__" : Str))=false:=by decide):DE X (.Name x pos) (Dm.eV i):=PE.weak (gg hN hv hd FG) fun _ _ _=>GO
theorem d_i{j}:DE X (.Constant (.int i) j pos) (Dm.eC (.int i)):=PE.weak De fun _ _ _=>nC fun _=>.int i
theorem d_b{v:Bool}{j}:DE X (.Constant (.bool v) j pos) (Dm.eC (.bl v)):=PE.weak Gw fun _ _ _=>nC fun _=>.bl v
theorem d_g{t:Tok}(hg:Gl X x)(hm:X.mg x=some (.int i t))(hd:(x == ("__debug__" : Str))=false:=by decide):DE X (.Name x pos) (Dm.eC (.int i)):=
 PE.weak (zg (v:=.int i) hg hm ⟨t,rfl⟩ hd) fun _ _ _=>nC fun _=>.int i
theorem pF{op:Operator}{r:R2}(o:OpR X (binaryOp op) r)(od:OpD r g)(ha:DE X a fa)(hb:DE X b fb):DE X (.BinOp a op b pos) (Dm.e2 g fa fb):=
 PE.weak (Gz o ha hb) fun _ _ _=>zC od
theorem bu(ha:DE X a fa)(hb:DE X b fb):DE X (.BinOp a .Add b pos) (Dm.e2 Dm.bO fa fb):=pF zM Eg ha hb
theorem lV(ha:DE X a fa)(hb:DE X b fb):DE X (.BinOp a .Sub b pos) (Dm.e2 Dm.iM fa fb):=pF Dy Ea ha hb
theorem f7(ha:DE X a fa)(hb:DE X b fb):DE X (.BinOp a .Mult b pos) (Dm.e2 Dm.gk fa fb):=pF zN Eh ha hb
theorem Hj(ha:DE X a fa)(hb:DE X b fb):DE X (.BinOp a .FloorDiv b pos) (Dm.e2 Dm.uy fa fb):=pF we Ed ha hb
theorem e8(ha:DE X a fa)(hb:DE X b fb):DE X (.BinOp a .Mod b pos) (Dm.e2 Dm.fV fa fb):=pF DB Eb ha hb
theorem gY(ha:DE X a fa)(hb:DE X b fb):DE X (.BinOp a .Pow b pos) (Dm.e2 Dm.gv fa fb):=pF DF Ec ha hb
theorem Hl(ha:DE X a fa):DE X (.UnaryOp .USub a pos) (Dm.e1 Dm.zz fa):=PE.weak (GA DG ha) fun _ _ _=>GP Ef
theorem lW{op:CmpOp}{r:R2}(o:OpR X (compareOp op) r)(od:OpD r g)(ha:DE X a fa)(hb:DE X b fb)(hm:behindInMarks op b=false):DE X (.Compare a [op] [b] pos) (Dm.e2 g fa fb):=
 PE.weak (zk o ha hb hm) fun _ _ _=>zC od
theorem lX{op:CmpOp}{r:R2}(o:OpR X (compareOp op) r)(od:OpD r g)(ha:DE X a fa)(hb:DE X b fb)(hm:behindInMarks op b=false):DT X (.Compare a [op] [b] pos) (Dm.tV (Dm.e2 g fa fb)):=
 PT.weak (zl o ha hb hm) fun σ H Q h=>zC od (vZ h)
theorem Ho(hr:aV k X.A)(ha:DE X a fa)(hb:DE X b fb):DE X (.Compare a [.Eq] [b] pos) (Dm.e2 Dm.gEq fa fb):=lW (wc hr) BX ha hb (dH _)
theorem JD(ha:DE X a fa)(hb:DE X b fb):DE X (.Compare a [.Lt] [b] pos) (Dm.e2 Dm.gLt fa fb):=lW BN BU ha hb (dH _)
theorem JE(ha:DE X a fa)(hb:DE X b fb):DE X (.Compare a [.LtE] [b] pos) (Dm.e2 Dm.gLe fa fb):=lW r8 sG ha hb (dH _)
theorem JF(ha:DE X a fa)(hb:DE X b fb):DE X (.Compare a [.Gt] [b] pos) (Dm.e2 Dm.gGt fa fb):=lW BO BV ha hb (dH _)
theorem zR(hr:aV k X.A)(ha:DE X a fa)(hb:DE X b fb)(hm:behindInMarks .In b=false:=by rfl):DE X (.Compare a [.In] [b] pos) (Dm.e2 Dm.gIn fa fb):=lW (D_ hr) Hh ha hb hm
theorem Hq(hr:aV k X.A)(ha:DE X a fa)(hb:DE X b fb)(hm:behindInMarks .NotIn b=false:=by rfl):DE X (.Compare a [.NotIn] [b] pos) (Dm.e2 Dm.iR fa fb):=lW (uD hr) wm ha hb hm
theorem wo(hr:aV k X.A)(ha:DE X a fa)(hb:DE X b fb):DT X (.Compare a [.Eq] [b] pos) (Dm.tV (Dm.e2 Dm.gEq fa fb)):=lX (wc hr) BX ha hb (dH _)
theorem ly(hr:aV k X.A)(ha:DE X a fa)(hb:DE X b fb):DT X (.Compare a [.NotEq] [b] pos) (Dm.tV (Dm.e2 Dm.gNe fa fb)):=lX (D9 hr) Hg ha hb (dH _)
theorem Ej(ha:DE X a fa)(hb:DE X b fb):DT X (.Compare a [.Lt] [b] pos) (Dm.tV (Dm.e2 Dm.gLt fa fb)):=lX BN BU ha hb (dH _)
theorem JG(ha:DE X a fa)(hb:DE X b fb):DT X (.Compare a [.LtE] [b] pos) (Dm.tV (Dm.e2 Dm.gLe fa fb)):=lX r8 sG ha hb (dH _)
theorem zS(ha:DE X a fa)(hb:DE X b fb):DT X (.Compare a [.Gt] [b] pos) (Dm.tV (Dm.e2 Dm.gGt fa fb)):=lX BO BV ha hb (dH _)
theorem Ek(ha:DE X a fa)(hb:DE X b fb):DT X (.Compare a [.GtE] [b] pos) (Dm.tV (Dm.e2 Dm.gGe fa fb)):=lX GD G9 ha hb (dH _)
theorem bf(ha:DE X a fa)(hb:DE X b fb)(hs:nk b:=by intro _ _;rfl):DE X (.Subscript a b pos) (Dm.e2 Dm.gIx fa fb):=PE.weak (BQ (se.or DU) ha hb hs) fun _ _ _=>zC Hi
theorem eH:DA X [] []:=PA.weak ni fun _ _ _=>GQ
theorem aC{es:List Expr}{fs:List FE}(h:DE X e f)(r:DA X es fs)(hs:starEach (e::es) X.env=(false,eval e X.env)::starEach es X.env:=by rfl):DA X (e::es) (f::fs):=PA.weak (gR h r hs) fun _ _ _=>DZ
theorem e9{es:List Expr}{fs:List FE}{x1}(h:DA X es fs):DE X (.Tuple es x1 pos) (Dm.eN fs):=PE.weak (vM h) fun _ _ _=>GR
theorem cR{es:List Expr}{fs:List FE}(h:DA X es fs):DE X (.List es pos) (Dm.dI fs):=PE.weak (DL h) fun _ _ _=>GS
theorem uE{es:List Expr}{fs:List FE}{g:List Dat->Option RV}{id:String}{p:Pos}(hc:dM X (.builtin id) r)(cd:CallD r g)(hv:bootBuiltins x=some (.builtin id))(hg:Gl X x)(hm:X.mg x=none)(ha:DA X (e::es) fs)
  (hn:x ≠ "__name__" := by decide) (FF:(x == ("__debug__" : Str))=false:=by decide) (he:starEach (e::es) X.env=(false,eval e X.env)::starEach es X.env:=by rfl) (A3:(backTo pos (starEach es X.env)).any (·.1)=false:=by rfl) :
  DE X (.Call (.Name x p) (e::es) [] pos) (Dm.eB g fs):=PE.weak (o8 hc hg hm hv ha hn FF he A3) fun _ _ _=>D0 cd
theorem Hr{es:List Expr}{fs:List FE}{g:List Dat->Option RV}{T:String}{p:Pos}(hc:dM X (.type T) r)(cd:CallD r g)(hv:bootBuiltins x=some (.type T))(hg:Gl X x)(hm:X.mg x=none)(ha:DA X (e::es) fs)
  (hn:x ≠ "__name__" := by decide) (FF:(x == ("__debug__" : Str))=false:=by decide) (he:starEach (e::es) X.env=(false,eval e X.env)::starEach es X.env:=by rfl) (A3:(backTo pos (starEach es X.env)).any (·.1)=false:=by rfl) :
  DE X (.Call (.Name x p) (e::es) [] pos) (Dm.eB g fs):=PE.weak (uu hc hg hm hv ha hn FF he A3) fun _ _ _=>D0 cd
variable{es:List Expr}{fs:List FE}{p:Pos}
theorem dj(hg:Gl X "len")(hm:X.mg "len" = none)(ha:DA X [e] fs)(he:starEach [e] X.env=[(false,eval e X.env)]:=by rfl)(A3:(backTo pos (starEach [] X.env)).any (·.1)=false:=by rfl):DE X (.Call (.Name "len" p) [e] [] pos) (Dm.eB Dm.cV fs):=uE nu Ei PySem.boot_len hg hm ha (he:=he) (A3:=A3)
theorem nJ(hc:X.calm=true)(hg:Gl X "min")(hm:X.mg "min" = none)(ha:DA X [a,b] fs)(he:starEach [a,b] X.env=(false,eval a X.env)::starEach [b] X.env:=by rfl)(A3:(backTo pos (starEach [b] X.env)).any (·.1)=false:=by rfl):DE X (.Call (.Name "min" p) [a,b] [] pos) (Dm.eB Dm.i9 fs):=uE (uh hc) zO (by rfl) hg hm ha (he:=he) (A3:=A3)
theorem nK(hc:X.calm=true)(hg:Gl X "max")(hm:X.mg "max" = none)(ha:DA X [a,b] fs)(he:starEach [a,b] X.env=(false,eval a X.env)::starEach [b] X.env:=by rfl)(A3:(backTo pos (starEach [b] X.env)).any (·.1)=false:=by rfl):DE X (.Call (.Name "max" p) [a,b] [] pos) (Dm.eB Dm.i_ fs):=uE (ug hc) zP (by rfl) hg hm ha (he:=he) (A3:=A3)
theorem El(hg:Gl X "list")(hm:X.mg "list" = none)(ha:DA X [e] fs)(he:starEach [e] X.env=[(false,eval e X.env)]:=by rfl)(A3:(backTo pos (starEach [] X.env)).any (·.1)=false:=by rfl):DE X (.Call (.Name "list" p) [e] [] pos) (Dm.eB Dm.pq fs):=Hr nv zQ (by rfl) hg hm ha (he:=he) (A3:=A3)
theorem aD{F:Addr}{fd:FuncData}{ps:List Str}{g:List Dat->Option RV}(G:aO X.prog X.w X.K X.mg X.base CX0 k F fd ps (spD g))(hr:aV k X.A)(hg:Gl X x)(hm:X.mg x=some (.ref F))(hk:Le X.K (.ref F)=true)(hb:Binds X.K fd ps [])
  (ha:DA X (e::es) fs) (FF:(x == ("__debug__" : Str))=false:=by decide) (he:starEach (e::es) X.env=(false,eval e X.env)::starEach es X.env:=by rfl) (A3:(backTo pos (starEach es X.env)).any (·.1)=false:=by rfl) :
  DE X (.Call (.Name x p) (e::es) [] pos) (Dm.eF g fs):=PE.weak (dh G hr hg hm hk hb .nil (gT (X:=X)) ha FF he A3) fun _ _ _=>nE
theorem JH{t:FT}{q:Expr}(hq:DT X q t)(ha:DE X a fa)(hb:DE X b fb):DE X (.IfExp q a b pos) (Dm.eIf t fa fb):=PE.weak (vv hq ha hb) fun _ _ _=>Jv
theorem pG{op}(h:DE X a fa):DE X (.BoolOp op [a] pos) fa:=Dh h
theorem lY(ha:DE X a fa)(hb:DE X (.BoolOp .And (b::xN) pos) fb):DE X (.BoolOp .And (a::b::xN) pos) (Dm.iP fa fb):=PE.weak (Di ha hb) fun _ _ _=>GU
theorem BY(ha:DE X a fa):DE X (.UnaryOp .Not a pos) (Dm.qI fa):=PE.weak (Dj ha) fun _ _ _=>GV
noncomputable abbrev DW(X:Cx)(e:Expr)(f:FT):Prop:=PW X e (tDT f)
theorem PW.weak{t t':TT}(h:PW X e t)(k:∀σ H Q,t' σ H Q->t σ H Q):PW X e t':=fun whole jn s σ H Q I q=>h whole jn s σ H Q I (k σ H Q q)
variable{ta tb:FT}
theorem Em(h:DT X a ta):DW X (.BoolOp .And [a] pos) ta:=pw_and1 h
theorem jV(h:DT X a ta):DW X (.BoolOp .Or [a] pos) ta:=pw_or1 h
theorem w_and(ha:DT X a ta)(hb:DW X (.BoolOp .And (b::xN) pos) tb):DW X (.BoolOp .And (a::b::xN) pos) (Dm.lg ta tb):=PW.weak (pw_and ha hb) fun _ _ _=>D4
theorem w_or(ha:DT X a ta)(hb:DW X (.BoolOp .Or (b::xN) pos) tb):DW X (.BoolOp .Or (a::b::xN) pos) (Dm.tOr ta tb):=PW.weak (pw_or ha hb) fun _ _ _=>GW
theorem t_w(h:DW X a ta):DT X a ta:=h.pt
theorem dm(h:DT X a ta):DT X (.UnaryOp .Not a pos) (Dm.dg ta):=PT.weak (Dg h) fun _ _ _=>D3
theorem dw(h:DE X e f)(he:∀whole,isTrue e X.env whole=(do let v <- whole;standAt e.pos;holding [v] (truthy v)):=by intro _;rfl):DT X e (Dm.tV f):=PT.weak (Df h he) fun _ _ _=>vZ
variable{tg:Expr}
theorem zT(hg:Gl X "range")(hm:X.mg "range" = none)(ha:DA X [a] [fa])(hs:starEach [a] X.env=[(false,eval a X.env)]:=by rfl):DI X tg (.Call (.Name "range" p) [a] [] pos) (Dm.iR1 fa):=
 PI.weak (lJ hg hm ha hs) fun _ _ _=>G5
theorem Eo(hg:Gl X "range")(hm:X.mg "range" = none)(ha:DA X [a,b] [fa,fb])(hs:starEach [a,b] X.env=[(false,eval a X.env),(false,eval b X.env)]:=by rfl)(hs2:starEach [b] X.env=[(false,eval b X.env)]:=by rfl):DI X tg (.Call (.Name "range" p) [a,b] [] pos) (Dm.iR2 fa fb):=
 PI.weak (ue hg hm ha hs hs2) fun _ _ _=>G6
end
end
section
variable{X:Cx}{st:Stmt}{xN:List Stmt}{fs gs:FS}{e a b c:Expr}{f fa fb:FE}{pos:Pos}
section
variable{is:List Nat}{x:Str}{es:List Expr}
theorem cC:DSs X [] Dm.sNx:=PSs.weak ju fun _ _ _=>Jw
theorem aj(h1:DS X st fs)(h2:DSs X xN gs):DSs X (st::xN) (Dm.aI fs gs):=PSs.weak (bU h1 h2) fun _ _ _=>GY
theorem aA(h1:DS X st fs):DSs X [st] fs:=gM h1
theorem s_a(i:Nat){pos':Pos}(hN:X.N.Nodup)(he:DE X e f)(hi:X.N[i]?=some x:=by rfl)(hx:Loc X.env.scope x:=by trivial)(hs:swapsWith e (some (.Name x pos')) pos.line X.env=pure false:=by rfl)
  (hf:X.fn x=true\/X.env.scope.names.lookup x=some .local:=by trivial):DS X (.Assign [.Name x pos'] e pos) (Dm.sA i f):=PS.weak (vD hN hi hx he hs hf) fun _ _ _=>v7
theorem jW:PGs X [] (dX []):=rY
theorem bP(i:Nat){px:Pos}(hN:X.N.Nodup)(h2:PGs X es (dX is))(hi:X.N[i]?=some x:=by rfl)(hx:Loc X.env.scope x:=by trivial)
  (hf:X.fn x=true\/X.env.scope.names.lookup x=some .local:=by trivial) (hs:(assignEach (.Name x px::es) X.env).map (·.2)=assign (.Name x px) X.env::(assignEach es X.env).map (·.2):=by rfl):PGs X (.Name x px::es) (dX (i::is)):=jJ (gO hN hi hx hf) h2 hs
theorem s_e(he:DE X e f)(hs:swapsWith e none pos.line X.env=pure false:=by rfl):DS X (.Expr e pos) (Dm.sE f):=PS.weak (jv he hs) fun _ _ _=>D5
theorem s_r(he:DE X e f):DS X (.Return (some e) pos) (Dm.sR f):=PS.weak (jI he) fun _ _ _=>GZ
theorem eS{t:FT}{x y:List Stmt}(ht:DT X c t)(ha:DSs X x fs)(hb:DSs X y gs):DS X (.If c x y pos) (Dm.sIf t fs gs):=PS.weak (rX ht ha hb) fun _ _ _=>G0
theorem sJ:DS X st (fun _=>none):=PS.weak vA fun _ _ _ ⟨_,_,_,_,z,_⟩=>by cases z
theorem sL(i:Nat){px ap cp:Pos}(he:DE X e f)(hi:X.N[i]?=some x:=by rfl)(hv:Vis X.env.scope x:=by trivial)(hd:(x == ("__debug__" : Str))=false:=by decide)
  (FG:(x == ("__classdict__" : Str))=false:=by decide) (Ih:attributeBase (.Name x px) "append" X.env (eval (.Name x px) X.env)=eval (.Name x px) X.env:=by rfl)
  (hfew:((backTo cp (starEach [e] X.env)).all (fun x=>!x.1)&&(backToKw cp (keywordEach [] X.env)).all (fun x=>x.1.isSome)
   && decide ([e].length+([]:List Keyword).length+(if ([]:List Keyword).isEmpty then 0 else 1)<30))=true:=by rfl)
  (Ig:(ap.endLine == cp.line)=true:=by rfl) (hs:starEach [e] X.env=(false,eval e X.env)::starEach [] X.env:=by rfl) (Ij:(backTo cp (starEach [] X.env)).any (·.1)=false:=by rfl)
  (hsw:swapsWith (.Call (.Attribute (.Name x px) "append" ap) [e] [] cp) none pos.line X.env=pure false:=by rfl) :
  DS X (.Expr (.Call (.Attribute (.Name x px) "append" ap) [e] [] cp) pos) (Dm.nB i f):=
 PS.weak (jv (BS MN PySem.F.slot_list_append PySem.F.type_list_append iO (gg hi hv hd FG) (aC he eH hs) Ih hfew Ig hs Ij) hsw) fun _ _ _=>G1
theorem BZ(i:Nat){j:Expr}{fj:FE}{px sp:Pos}(hj:DE X j fj)(he:DE X e f)(hi:X.N[i]?=some x:=by rfl)(hv:Vis X.env.scope x:=by trivial)(hd:(x == ("__debug__" : Str))=false:=by decide)
  (FG:(x == ("__classdict__" : Str))=false:=by decide) (ha:∀ v,assign (.Subscript (.Name x px) j sp) X.env v=(do
   let ov <- holding [v] (eval (.Name x px) X.env)
   let iv <- holding [v,ov] (eval j X.env)
   standAt sp
   holding [v,ov,iv] (setItem ov iv v)
   release [v,ov,iv] []):=by intro _;rfl)
  (hs:swapsWithSole [.Subscript (.Name x px) j sp] e pos.line X.env=pure false:=by rfl) (hw:swappedStores [.Subscript (.Name x px) j sp] e X.env=pure none:=by rfl) (h1:(assignEach [.Subscript (.Name x px) j sp] X.env).map (·.2)=[assign (.Subscript (.Name x px) j sp) X.env]:=by rfl) :
  DS X (.Assign [.Subscript (.Name x px) j sp] e pos) (Dm.qJ i fj f):=PS.weak (vC he (Dt (gg hi hv hd FG) hj set_list ha) hs hw h1) fun _ _ _=>G3
structure TG'(X:Cx)(tg:Expr)(is:List Nat)(bd:Dm.FB):Prop where
 ex:∃g,PG X tg g/\BD is g bd
theorem g_n(i:Nat){px:Pos}(hN:X.N.Nodup)(hi:X.N[i]?=some x:=by rfl)(hx:Loc X.env.scope x:=by trivial)(hf:X.fn x=true\/X.env.scope.names.lookup x=some .local:=by trivial) :
  TG' X (.Name x px) [i] (Dm.bN i):=⟨⟨_,gO hN hi hx hf,sC i⟩⟩
theorem g_t{k:Nat}{tpos:Pos}(hc:X.calm=true)(hg:PGs X es (dX is))(hn:(assignEach es X.env).length=is.length:=by rfl)(hst:(assignEach es X.env).findIdx? (·.1)=none:=by rfl):TG' X (.Tuple es k tpos) is (Dm.bT is):=
 ⟨⟨_,qD hc hg hn hst,v8 is rfl⟩⟩
theorem f9{tg it:Expr}{fi:Dm.FI}{bd:Dm.FB}{body:List Stmt}(hp:PassesOwn (model X.prog X.w) X.A X.env X.xe)(hc:X.calm=true)(hi:DI X tg it fi)(hg:TG' X tg is bd)(hb:DSs X body fs)
  (hs:∀x,foldedSetIterable it X.env x=pure x:=by intro _;rfl):DS X (.For tg it body [] pos) (Dm.gh fi bd fs):=by
 obtain⟨g,h1,h2⟩:=hg.ex;exact PS.weak (vH hp hc hi h1 hb hs) fun _ _ _=>G4 h2
end
end
noncomputable def tyName:Dat->String
 |.non => "NoneType"
 |.bl _ => "bool"
 |.int _ => "int"
 |.str _ => "str"
 |.tup _ => "tuple"
 |.lst _ => "list"
 |.dct _ _ => "dict"
 |.dcp _ _ => "dict"
 |.exc _ => "dict"
 |.eW _ _ => "dict"
 |.fn _ => "dict"
def uF(T:String)(p:Dat->Bool):Prop:=∀(K:gb) (d:Dat),NS K (.type (tyName d)) (.type T)=some (p d)
theorem sM:uF "int" Dm.isI:=fun K d=>by cases d<;>rfl
theorem pH:uF "bool" Dm.isB:=fun K d=>by cases d<;>rfl
theorem jX:uF "list" Dm.isL:=fun K d=>by cases d<;>rfl
theorem kit_tuple:uF "tuple" Dm.isT:=fun K d=>by cases d<;>rfl
theorem wu{K:gb}{H:Hp}{v:V}{d:Dat}(r:Rep H v d)(nx:∀C,d≠.exc C/\d≠.fn C/\∀v,d≠.eW C v):gQ K H v (.type (tyName d)):=by
 cases r with
 |non=>exact .non
 |bl b=>exact .bl b
 |int i=>exact .int i
 |str s=>exact .str _
 |tup q _=>exact .tup q
 |lst q _=>
  rcases q with q | ⟨o,q⟩
  ·exact .lst q
  ·exact .frz q
 |dct q _ _=>exact .dK q
 |dcp q _ _=>exact .dT q
 |exc _=>exact absurd rfl (nx _).1
 |eW _ _=>exact absurd rfl ((nx _).2.2 _)
 |fn _=>exact absurd rfl (nx _).2.1
def Ht(K:gb)(T:String):List V->Hp->VK->Prop:=fun xs H Q=>∃x t b,xs=[x,.ty T]/\gQ K H x t/\NS K t (.type T)=some b/\Q (.bl b) H
section
variable{X:Cx}{e:Expr}{f:FE}{p p2 pos:Pos}
theorem wA{T:String}:dM X (.builtin "isinstance") (Ht X.K T):=by intro jn s σ H xs us Q I r h;obtain⟨x,t,b,rfl,ty,e,q⟩:=h;obtain⟨u,u2,rfl,rx,ry⟩:=vals2 r;cases ry;exact uq I rx ty e fun tk=>⟨.bl b,H,I.tok tk,rfl,q⟩
theorem Hu{K:gb}{T:String}{p:Dat->Bool}(kp:uF T p){σ:L2.St}{H:Hp}{Q:VK}(h:tD (Dm.e1 (Dm.jj p) f) σ H Q):tCB (Ht K T) (jM (tD f) (jM (tC (.ty T)) ur)) σ H Q:=by
 obtain⟨H0,ρ,x,ρ',st,e,k⟩:=h;unfold Dm.e1 at e;split at e
 ·cases e
 rename_i x1 ρ1 e1;split at e
 ·cases e
 rename_i dx p1;have nx:∀C,dx≠.exc C/\dx≠.fn C/\∀v,dx≠.eW C v:=fun C=>⟨fun z=>(by subst z;cases e),fun z=>(by subst z;cases e),fun v z=>(by subst z;cases e)⟩;have ev:Dm.jj p dx=Dm.vB (p dx):=by cases dx<;>first | rfl | exact absurd rfl (nx _).1 | exact absurd rfl (nx _).2.1 | exact absurd rfl ((nx _).2.2 _)
 rw[ev]at e;dsimp only at e;cases e;refine⟨H0,ρ,x1,_,st,e1,fun v H1 Hb t1 r1=>?_⟩;exact⟨v,_,_,rfl,wu ((r1.look t1.st p1).full t1.st.same) nx,kp K dx,k _ H1 Hb t1 (Rep.bl _)⟩
theorem gZ{T:String}{tn:Str}{p':Dat->Bool}(kp:uF T p')(hvT:bootBuiltins tn=some (.type T))(hgT:Gl X tn)(hmT:X.mg tn=none)(hg:Gl X "isinstance")(hm:X.mg "isinstance" = none)(h:DE X e f)
  (hn:tn ≠ "__name__" := by decide) (FF:(tn == ("__debug__" : Str))=false:=by decide)
  (he:starEach [e,.Name tn p2] X.env=(false,eval e X.env)::starEach [.Name tn p2] X.env:=by rfl) (A3:(backTo pos (starEach [.Name tn p2] X.env)).any (·.1)=false:=by rfl) (he2:starEach [.Name tn p2] X.env=(false,eval (.Name tn p2) X.env)::starEach [] X.env:=by rfl) :
  DE X (.Call (.Name "isinstance" p) [e,.Name tn p2] [] pos) (Dm.e1 (Dm.jj p') f):=
 PE.weak (o8 wA hg hm PyProof.Rows.boot_isinstance (gR h (gR (zh (v:=.ty T) hgT hmT hvT rfl hn FF) ni he2) he) (he:=he) (A3:=A3)) fun _ _ _=>Hu kp
theorem all_range(bs:List Bool):(KY bs.length).all (fun i=>bs.getD i true)=bs.all id:=by
 rw[Bool.eq_iff_iff,Lx,Lx];constructor
 ·intro h b hb;obtain⟨i,hi,rfl⟩:=List.mem_iff_getElem.mp hb;have:=h i (Ng.mpr hi);rw[Lu,KG hi]at this;exact this
 ·intro h i hi;have hi:=Ng.mp hi;rw[Lu,KG hi];exact h _ (MC hi)
theorem uG(hc:X.calm=true):dM X (.builtin "all") (fun xs H Q=>∃(a:Addr) (bs:List Bool),xs=[.ref a]/\Rd H a (.lst (bs.map V.bl))/\Q (.bl (bs.all id)) H):=by
 intro jn s σ H xs us Q I r h;obtain⟨a,bs,rfl,hq,q⟩:=h;obtain⟨u,rfl,rx⟩:=vals1 r;cases rx;obtain⟨z,its,n,rv,e⟩:=hq.ok I.hok;have hl:s.heap.IsList a its.toArray:=⟨_,e,rfl,_,rfl⟩
 have xR:=rv.length;rw[gp]at xR;have hax:a≠s.heap.objs.size:=KP (KC e);refine PySem.call_all_walk (wpAny_pyIter_list hl ⟨s.heap.objs.size,_,_,_,_,_,fun i=>bs.getD i true,rfl,Walks.list (A:=X.A.in1) (I.ok.hd hc) s.heap.objs.size a hax its.toArray,⟨⟨_,KU _ rfl,rfl,rfl⟩,hl.push _⟩,?_,fun h' tk hk=>?_⟩)
 ·intro i v s' Q' E' hv hQ';have hv':its[i]?=some v:=by simpa using hv
  have hi:i<bs.length:=by rw[xR];exact(pe.mp hv').1
  have hb:(bs.map V.bl)[i]?=some (V.bl bs[i]):=by rw[KZ,KG hi];rfl
  obtain⟨u,hu,ru⟩:=rv.get hb;rw[hv']at hu;cases hu;cases ru;refine wpAny_truthy_bool ?_;have e2:bs.getD i true=bs[i]:=by rw[Lu,KG hi];rfl
  rw[<- e2];exact hQ'
 ·have e1:its.toArray.size=bs.length:=by rw[Ky,xR]
  rw[e1,all_range];refine⟨.bl _,H,I.kept (t':=tk) fun b o eb=>hk b o ?_ (Ds _ eb),rfl,q⟩;intro hm;have:b=s.heap.objs.size:=by simpa using hm
  exact absurd (KC eb) (by rw[this];exact Ls _)
end
section
variable{X:Cx}{a b c e:Expr}{f fa fb fc:FE}{p p2 pos:Pos}
section
variable{g h:Dat->Dat->Option RV}{σ:L2.St}{H:Hp}{Q:VK}
theorem zU{r r':R2}(o1:OpD r g)(o2:OpD r' h)(hh:tD (Dm.jN g h fa fb fc) σ H Q):vK r r' (tD fa) (tD fb) (tD fc) σ H Q:=by
 obtain⟨H0,ρ,x,ρ',st,e,k⟩:=hh;unfold Dm.jN at e;split at e
 ·cases e
 rename_i x1 ρ1 e1;split at e
 ·cases e
 rename_i y1 ρ2 e2;split at e
 ·cases e
 rename_i dx p1;split at e
 ·cases e
 rename_i dy p2;refine⟨H0,ρ,x1,ρ1,st,e1,fun v H1 Hb t1 r1=>⟨H1,ρ1,y1,ρ2,t1.st,e2,fun u H2 Hc t2 r2=>?_⟩⟩;split at e
 ·rename_i gz;refine o1 H2 Hc v u dx dy _ _ t2.st.same ((r1.mono t2).look t2.st p1) (r2.look t2.st p2) gz fun w H3 Hd g3 r3=>?_;refine⟨true,Rep.nF r3,?_⟩;rw[if_pos rfl];have t3:=t2.trans (.grow t2.st g3);have r2':=r2.mono (.grow t2.st g3);split at e
  ·cases e
  rename_i z ρ3 e3;split at e
  ·cases e
  rename_i dy' p3;split at e
  ·cases e
  rename_i dz p4;split at e
  ·cases e
  rename_i w2 hz;cases e;refine⟨H3,ρ2,z,_,t3.st,e3,fun w' H4 He t4 r4=>?_⟩;refine o2 H4 He u w' dy' dz w2 Q t4.st.same ((r2'.mono t4).look t4.st p3) (r4.look t4.st p4) hz fun w5 H5 Hf g5 r5=>?_;exact k w5 H5 Hf (t1.trans (t3.trans (t4.trans (.grow t4.st g5)))) ((r5.toV t4.st).early fun a n=>(t1.trans (t3.trans t4)).stp.gone n)
 ·rename_i gz;cases e;refine o1 H2 Hc v u dx dy _ _ t2.st.same ((r1.mono t2).look t2.st p1) (r2.look t2.st p2) gz fun w H3 Hd g3 r3=>?_;refine⟨false,Rep.nF r3,?_⟩;rw[if_neg K7];exact k _ H3 Hd (t1.trans (t2.trans (.grow t2.st g3))) (Rep.bl false)
 ·cases e
theorem zV{op op':CmpOp}{r r':R2}(o1:OpR X (compareOp op) r)(q1:OpD r g)(o2:OpR X (compareOp op') r')(q2:OpD r' h)(ha:DE X a fa)(hb:DE X b fb)(hc:DE X c fc)
  (hm:lastMarks [op,op'] [b,c]=false:=by with_unfolding_all rfl):DE X (.Compare a [op,op'] [b,c] pos) (Dm.jN g h fa fb fc):=PE.weak (vL o1 o2 ha hb hc hm) fun _ _ _=>zU q1 q2
theorem wB(n d:Nat)(o:Option Int)(hd:d<=n):HT.sIx n d o=Dm.sIx n d o:=by
 cases o with
 |none=>rfl
 |some v=>
  unfold HT.sIx Dm.sIx
  first
   |rfl
   |(dsimp only;split<;>lia)
theorem uH{H0:Hp}{xs:List V}{ds:List Dat}(rs:av H0 xs ds)(lo hi:Option Int):av H0 (qG xs lo hi) (Dm.cut ds lo hi):=by unfold qG Dm.cut;rw[rs.length,wB _ _ _ (Lc _),wB _ _ _ (Nat.le_refl _)];exact(rs.drop _).take _
theorem sN{fo:Option FE}{H0 H:Hp}{ρ ρ':Dm.Env}{o:Option Int}{Q:Option Int->Hp->Prop}(st:ak H0 H σ ρ)(e:Dm.part fo ρ=some (o,ρ'))(k:∀H0' H',ESt σ ρ H0 H ρ' H0' H'->Q o H') :
  (match fo with | none=>nj | some f=>vP (tD f)) σ H Q:=by
 cases fo with
 |none=>cases e;exact k H0 H (.refl st)
 |some f=>
  unfold Dm.part at e;dsimp only at e;split at e
  ·rename_i i ρ1 e1;cases e;exact⟨H0,ρ,_,_,st,e1,fun v H1 Hb t1 r1=>⟨i,Rep.isInt r1,k H1 Hb t1⟩⟩
  ·cases e
noncomputable abbrev tOf(fo:Option FE):TO:=match fo with | none=>nj | some f=>vP (tD f)
theorem JI{K:gb}{lo hi:Option FE}(h:tD (Dm.eSl f lo hi) σ H Q):tSl (GH K) (tD f) (tOf lo) (tOf hi) σ H Q:=by
 obtain⟨H0,ρ,x,ρ',st,e,k⟩:=h;unfold Dm.eSl at e;split at e
 ·cases e
 rename_i x1 ρ1 e1;split at e
 ·cases e
 rename_i l ρ2 e2;split at e
 ·cases e
 rename_i hh ρ3 e3;split at e
 ·rename_i ds p1;cases e;refine⟨H0,ρ,x1,ρ1,st,e1,fun v H1 Hb t1 r1=>?_⟩;refine sN t1.st e2 fun H2 Hc t2=>?_;refine sN t2.st e3 fun H3 Hd t3=>?_;have tt:=t1.trans (t2.trans t3);obtain⟨a,xs,rfl,qa,ra⟩:=bI t3.st.same ((r1.mono (t2.trans t3)).look t3.st p1);refine⟨a,xs,rfl,.inl qa,fun q hq=>?_⟩;have g:=aJ.lu (o:=HO.lst (qG xs l hh)) t3.st.same hq;refine k _ _ _ (tt.trans (.grow t3.st g)) ⟨q,rfl,tt.stp.gone hq,t3.st.dO hq,t3.st.same.free hq,_,aq,uH ra l hh⟩
 ·cases e
theorem Ep{lo hi:Option Expr}{flo fhi:Option FE}(h:DE X e f)(hl:PO X lo (tOf flo))(hh:PO X hi (tOf fhi)):DE X (.Subscript e (.Slice lo hi none p2) pos) (Dm.eSl f flo fhi):=PE.weak (vQ zw h hl hh) fun _ _ _=>JI
theorem o_n:PO X none (tOf none):=zu
theorem o_s(h:DE X e f):PO X (some e) (tOf (some f)):=zv h
end
end
section
variable{X:Cx}{nm:List Str}{En tg iter:Expr}{Fq:List Expr}{scope:Scope}{pos:Pos}{own:List Str}{fi:Dm.FI}{bd:Dm.FB}{is:List Nat}{t:FT}{f:FE}
noncomputable abbrev DTs(X:Cx)(Fq:List Expr)(t:FT):Prop:=PTs X Fq (tDT t)
theorem dY:DTs X [] Dm.di:=fun jn s σ H Q I h=>by obtain⟨H0,ρ,b,ρ',st,e,k⟩:=h;cases e;exact sD jn s σ H Q I (k H0 H (.refl st))
theorem e_{c:Expr}(h:DT X c t):DTs X [c] t:=zG h
structure TGc(X:Cx)(nm:List Str)(scope:Scope)(own:List Str)(tg:Expr)(is:List Nat)(bd:Dm.FB):Prop where
 ex:∃g,(∀cl C s H fp,PG (aW X nm scope own cl C s H fp) tg g)/\BD is g bd
theorem c_n(i:Nat){x:Str}{px:Pos}(hN:(nm++own).Nodup)(hi:(nm++own)[i]?=some x)(hx:(relabel scope X.env).names.lookup x=some .local):TGc X nm scope own (.Name x px) [i] (Dm.bN i):=
 ⟨⟨_,fun cl C s H fp=>gO (X:=aW X nm scope own cl C s H fp) hN hi (.inl hx) (.inr hx),sC i⟩⟩
theorem c_t{es:List Expr}{k:Nat}{tpos:Pos}(hc:X.calm=true)(hg:∀cl C s H fp,PGs (aW X nm scope own cl C s H fp) es (dX is))(hn:∀cl C,(assignEach es (compEnvC scope cl C X.env)).length=is.length:=by intro _ _;rfl)
  (hst:∀cl C,(assignEach es (compEnvC scope cl C X.env)).findIdx? (·.1)=none:=by intro _ _;rfl):TGc X nm scope own (.Tuple es k tpos) is (Dm.bT is):=
 ⟨⟨_,fun cl C s H fp=>qD (X:=aW X nm scope own cl C s H fp) hc (hg cl C s H fp) (hn cl C) (hst cl C),v8 is rfl⟩⟩
theorem Er(hc:X.calm=true)(S:cO X nm scope)(hi:DI X tg iter fi)(hg:TGc X nm scope own tg is bd)(ht:∀cl C s H fp,DTs (aW X nm scope own cl C s H fp) Fq t)(he:∀cl C s H fp,DE (aW X nm scope own cl C s H fp) En f)
  (hl:∀i∈is,X.N.length<=i) (hs:∀x,foldedSetIterable iter X.env x=pure x:=by intro _;rfl):DE X (.ListComp En [⟨tg,iter,Fq,0⟩] scope pos) (Dm.cB fi own.length bd t f):=by
 obtain⟨g,h1,h2⟩:=hg.ex;intro jn s σ H Q I h;exact sF hc S hi h1 ht he hs jn s σ H Q I (qO h2 (fun i hi=>by rw[I.len];exact hl i hi) h)
theorem Es(j:Nat){y:Str}{py Ft:Pos}(hN:X.N.Nodup)(hc:X.calm=true)(S:cO X nm scope)(hi:DI X tg iter fi)(hg:TGc X nm scope own tg is bd)(ht:∀cl C s H fp,DTs (aW X nm scope own cl C s H fp) Fq t)(he:∀cl C s H fp,DE (aW X nm scope own cl C s H fp) En f)
  (hl:∀i∈is,X.N.length<=i) (hj:X.N[j]?=some y:=by rfl) (hy:Loc X.env.scope y:=by trivial)
  (hsw:swapsWith (.ListComp En [⟨tg,iter,Fq,0⟩] scope pos) (some (.Name y py)) Ft.line X.env=pure true:=by rfl) (hs:∀x,foldedSetIterable iter X.env x=pure x:=by intro _;rfl)
  (hf:X.fn y=true\/X.env.scope.names.lookup y=some .local:=by trivial):DS X (.Assign [.Name y py] (.ListComp En [⟨tg,iter,Fq,0⟩] scope pos) Ft) (Dm.sA j (Dm.cB fi own.length bd t f)):=by
 obtain⟨g,h1,h2⟩:=hg.ex;intro jn s σ H D I h;exact eY hN hj hy hc S hi h1 ht he hsw hs hf jn s σ H D I (qO h2 (fun i hi=>by rw[I.len];exact hl i hi) (v7 h))
end
theorem jY{H0:Hp}:∀{ds:List Dat} {bs:List Bool} {vs:List V},av H0 vs ds->Dm.bools ds=some bs->vs=bs.map V.bl
 |[],bs,vs,r,e=>by cases r;cases e;rfl
 |.bl b::ds,bs,vs,r,e=>by
  cases r with
  |cons r rs=>
   unfold Dm.bools at e;cases q:Dm.bools ds with
   |none=>rw[q]at e;cases e
   |some cs=>rw[q]at e;cases e;cases Rep.nF r;rw[jY rs q];rfl
 |.non::ds,bs,vs,r,e=>by cases e
 |.int _::ds,bs,vs,r,e=>by cases e
 |.str _::ds,bs,vs,r,e=>by cases e
 |.tup _::ds,bs,vs,r,e=>by cases e
 |.lst _::ds,bs,vs,r,e=>by cases e
 |.dct _ _::ds,bs,vs,r,e=>by cases e
 |.dcp _ _::ds,bs,vs,r,e=>by cases e
theorem Et:CallD (fun xs H Q=>∃(a:Addr) (bs:List Bool),xs=[.ref a]/\Rd H a (.lst (bs.map V.bl))/\Q (.bl (bs.all id)) H) Dm.pA:=by
 intro H0 H vs ds z Q s rs e k;unfold Dm.pA at e;split at e
 ·split at e
  ·rename_i bs hb;cases e;cases rs with
   |cons r rr=>cases rr;obtain⟨a,us,rfl,qa,ra⟩:=bI s r;have:=jY ra hb;subst this;exact⟨a,bs,rfl,qa,k _ H0 H (aJ.refl s) (.bl _)⟩
  ·cases e
 ·cases e
theorem Eu:CallD (fun xs H Q=>(∃i,xs=[.int i]/\Q (.int i) H)\/∃k,xs=[.bl k]/\Q (.int (if k then 1 else 0)) H) Dm.uz:=by
 intro H0 H vs ds z Q s rs e k;unfold Dm.uz at e;split at e
 ·cases e;cases rs with
  |cons r rr=>cases rr;cases ay r;exact .inl ⟨_,rfl,k _ H0 H (aJ.refl s) (.int _)⟩
 ·cases e;cases rs with
  |cons r rr=>cases rr;cases zJ r;exact .inr ⟨_,rfl,k _ H0 H (aJ.refl s) (.int _)⟩
 ·cases e
section
variable{X:Cx}{a b c e:Expr}{f:FE}{fs:List FE}{p p2 pos:Pos}
theorem wC(hc:X.calm=true)(hg:Gl X "all")(hm:X.mg "all" = none)(ha:DA X [e] fs)(he:starEach [e] X.env=[(false,eval e X.env)]:=by rfl)(A3:(backTo pos (starEach [] X.env)).any (·.1)=false:=by rfl) :
  DE X (.Call (.Name "all" p) [e] [] pos) (Dm.eB Dm.pA fs):=uE (uG hc) Et (by rfl) hg hm ha (he:=he) (A3:=A3)
theorem B0(hg:Gl X "int")(hm:X.mg "int" = none)(ha:DA X [e] fs)(he:starEach [e] X.env=[(false,eval e X.env)]:=by rfl)(A3:(backTo pos (starEach [] X.env)).any (·.1)=false:=by rfl) :
  DE X (.Call (.Name "int" p) [e] [] pos) (Dm.eB Dm.uz fs):=Hr um Eu (by rfl) hg hm ha (he:=he) (A3:=A3)
end
noncomputable def cE(sc:Scope):List Str->List Str->Bool
 |[],[]=>true
 |x::N,y::nm=>(x == y||(sc.names.lookup y).isNone)&&cE sc N nm
 |_,_=>false
theorem cE.len{sc:Scope}:∀{N nm:List Str},cE sc N nm=true->nm.length=N.length
 |[],[],_=>rfl
 |[],_::_,h=>by cases h
 |_::_,[],h=>by cases h
 |x::N,y::nm,h=>by rw[cE,K5]at h;rw[Li,Li,cE.len h.2]
theorem cE.at{sc:Scope}:∀{N nm:List Str},cE sc N nm=true->∀(i:Nat) (x:Str),nm[i]?=some x->N[i]?=some x\/sc.names.lookup x=none
 |[],[],_,i,x,e=>by simp at e
 |[],_::_,h,_,_,_=>by cases h
 |_::_,[],h,_,_,_=>by cases h
 |x::N,y::nm,h,0,z,e=>by
  rw[cE,K5,NL]at h;simp at e;subst e;rcases h.1 with q | q
  ·have:x=y:=by simpa using q
   subst this;exact .inl rfl
  ·exact .inr (by simpa using q)
 |x::N,y::nm,h,i+1,z,e=>by rw[cE,K5]at h;rw[MO]at e ⊢;exact cE.at h.2 i z e
noncomputable def jZ(osc:Scope)(N nm:List Str)(sc:Scope):Bool:=
 sc.names.all (fun y=>y.2 != .cell)&&sc.names.all (fun y=>y.2 != .local||sc.names.lookup y.1 == some .local) &&
 sc.names.all (fun y=>y.2 != .free||(osc.names.lookup y.1 == some .cell||osc.names.lookup y.1 == some .free))&&nm.all (fun x=>sc.names.lookup x != some .local)&&cE sc N nm
theorem cO.of{X:Cx}{nm:List Str}{scope:Scope}(h:jZ X.env.scope X.N nm scope=true)(hk:scope.kind=.function):cO X nm scope:=by
 unfold jZ at h;simp only[K5,Lx]at h;obtain⟨⟨⟨⟨h1,h2⟩,h3⟩,h4⟩,h5⟩:=h;refine⟨hk,fun y hy=>?_,fun y hy hl=>?_,fun y hy hf=>?_,fun x hx=>?_,cE.len h5,cE.at h5⟩
 ·have:=h1 y hy;simpa using this
 ·have:=h2 y hy;rw[hl]at this
  simpa using this
 ·have:=h3 y hy;rw[hf]at this;have:(X.env.scope.names.lookup y.1 == some .cell||X.env.scope.names.lookup y.1 == some .free)=true:=by simpa using this
  rw[NL,beq_iff_eq,beq_iff_eq]at this;exact this
 ·have:=h4 x hx;simpa using this
section
variable{X:Cx}{En tg iter:Expr}{Fq:List Expr}{scope:Scope}{pos:Pos}{fi:Dm.FI}{bd:Dm.FB}{is:List Nat}{t:FT}{f:FE}
theorem pI{l:List Nat}{n:Nat}(h:(l.all fun i=>decide (n<=i))=true):∀i∈l,n<=i:=fun i hi=>of_decide_eq_true (Lx.mp h i hi)
theorem Ew(nm own:List Str)(hg:TGc X nm scope own tg is bd)(hi:DI X tg iter fi)(ht:∀cl C s H fp,DTs (aW X nm scope own cl C s H fp) Fq t)(he:∀cl C s H fp,DE (aW X nm scope own cl C s H fp) En f)
  (hc:X.calm=true:=by rfl) (hk:scope.kind=.function:=by rfl) (hS:jZ X.env.scope X.N nm scope=true:=by rfl) (hl:(is.all fun i=>decide (X.N.length<=i))=true:=by rfl) (hs:∀x,foldedSetIterable iter X.env x=pure x:=by intro _;rfl) :
  DE X (.ListComp En [⟨tg,iter,Fq,0⟩] scope pos) (Dm.cB fi own.length bd t f):=Er hc (cO.of hS hk) hi hg ht he (pI hl) hs
theorem JJ(j:Nat)(nm own:List Str){y:Str}{py Ft:Pos}(hN:X.N.Nodup)(hg:TGc X nm scope own tg is bd)(hi:DI X tg iter fi)(ht:∀cl C s H fp,DTs (aW X nm scope own cl C s H fp) Fq t)(he:∀cl C s H fp,DE (aW X nm scope own cl C s H fp) En f)
  (hc:X.calm=true:=by rfl) (hk:scope.kind=.function:=by rfl) (hS:jZ X.env.scope X.N nm scope=true:=by rfl) (hl:(is.all fun i=>decide (X.N.length<=i))=true:=by rfl) (hj:X.N[j]?=some y:=by rfl) (hy:Loc X.env.scope y:=by trivial)
  (hsw:swapsWith (.ListComp En [⟨tg,iter,Fq,0⟩] scope pos) (some (.Name y py)) Ft.line X.env=pure true:=by rfl) (hs:∀x,foldedSetIterable iter X.env x=pure x:=by intro _;rfl)
  (hf:X.fn y=true\/X.env.scope.names.lookup y=some .local:=by trivial):DS X (.Assign [.Name y py] (.ListComp En [⟨tg,iter,Fq,0⟩] scope pos) Ft) (Dm.sA j (Dm.cB fi own.length bd t f)):=
 Es j hN hc (cO.of hS hk) hi hg ht he (pI hl) hj hy hsw hs hf
end
section
variable{f:FE}{a:Addr}{X:Cx}{H:Hp}
theorem PI.or{tg it:Expr}{t t':TI}(h:PI X tg it t)(h':PI X tg it t'):PI X tg it (fun σ H R=>t σ H R\/t' σ H R):=fun jn s σ H R I q=>q.elim (h jn s σ H R I) (h' jn s σ H R I)
theorem Hv{K:gb}{σ:L2.St}{R:It->Hp->Prop}(h:tDI (Dm.iS f) σ H R):oY K (tD f) σ H R\/vE K (tD f) σ H R:=by
 obtain⟨H0,ρ,ys,ρ',st,e,k⟩:=h;unfold Dm.iS at e;split at e
 ·cases e
 rename_i x ρ1 e1;split at e
 ·rename_i ds ρ2 e2;cases e;exact .inl (Jx ⟨H0,ρ,_,_,st,by unfold Dm.iL;rw[e1];dsimp only;rw[e2],k⟩)
 ·rename_i ds ρ2 e2;cases e;exact .inr (Jy ⟨H0,ρ,_,_,st,by unfold Dm.iT;rw[e1];dsimp only;rw[e2],k⟩)
 ·cases e
theorem i_S{tg e:Expr}(h:DE X e f):DI X tg e (Dm.iS f):=PI.weak (PI.or (rZ h) (vF h)) fun _ _ _=>Hv
noncomputable def wD(K:gb):Bool:=K.all fun p=>match p.2.cls with | .type n=>n != "list" | _=>true
theorem lookup_mem{o:Obj}:∀{K:List (Addr×Obj)},K.lookup a=some o->(a,o)∈K
 |[],h=>by cases h
 |(b,x)::r,h=>by
  rw[Ll]at h;cases q:a == b with
  |true=>
   rw[q]at h;cases h;have:a=b:=by simpa using q
   rw[this];exact Kz
  |false=>rw[q]at h;exact Kw _ (lookup_mem h)
theorem Ex{f:List Dat->Option RV}{K:gb}{ns:List Int}{E:XK}(hf:f [.lst (ns.map Dat.int)]=some (.val (.bl true)))(hK:wD K=true)(hS:SqL K H a (ns.map V.int)) :
  spD f [.ref a] H (fun v _=>v=.bl true) E:=by
 have hq:Rd H a (.lst (ns.map V.int)):=by
  rcases hS with h | ⟨o,its,n,hk,hc,_⟩
  ·exact h
  ·have:=Lx.mp hK _ (lookup_mem hk);dsimp only at this;rw[hc]at this;exact absurd this (by decide)
 have hr:∀ns:List Int,av H (ns.map V.int) (ns.map Dat.int):=fun ns=>by
  induction ns with
  |nil=>exact .nil
  |cons n ns ih=>exact .cons (.int n) ih
 exact⟨H,_,_,ah.refl _,.cons (.lst hq (hr ns)) .nil,hf,fun v H0' H' _ r=>Rep.nF r⟩
end
end Br
namespace Dm
noncomputable def iRd(a b c:FE):FI:=fun ρ=>match a ρ with
 | some (.val (.int i),ρ1)=>(match b ρ1 with
  | some (.val (.int j),ρ2)=>(match c ρ2 with
   |some (.val (.int k),ρ3)=>if k=-1/\j<=BIG/\-BIG<=j/\i<=BIG/\-BIG<=i then some (downs i (i-j).toNat,ρ3) else none
   |_=>none)
  |_=>none)
 |_=>none
noncomputable def uI(a:FE):FI:=fun ρ=>match a ρ with
 |none=>none
 |some (x,ρ1)=>match tk ρ1 x with
  |some (.lst ds,ρ2)=>some (ds.reverse,ρ2)
  |_=>none
noncomputable def g6:Nat->List Dat->List Dat
 |_,[]=>[]
 |i,d::ds=>.tup [.int (i:Nat),d]::g6 (i+1) ds
noncomputable def iEn(a:FE):FI:=fun ρ=>match a ρ with
 |none=>none
 |some (x,ρ1)=>match tk ρ1 x with
  |some (.lst ds,ρ2)=>some (g6 0 ds,ρ2)
  |_=>none
noncomputable def j0(d:Dat):Option RV:=match d with
 |.lst ds=>some (.new (.lst ds.reverse))
 |_=>none
noncomputable def lZ:List Dat->Option RV
 |[.int j]=>if j<=1000000/\-1000000<=j then some (.new (.lst (ups 0 j.toNat))) else none
 |_=>none
end Dm
namespace Br
open PySem PySem.Spec PyProof.Rows L2
theorem l6{X:Cx}{jn:List (Addr×Obj)}{σ:L2.St}{H:Hp}{s:Shared}{h':Heap}{t':Nat}{fp:List Addr}{p:Addr}{o:HO}(I:Inv X jn σ H s)(hf:∀b∈fp,jK X jn H b)
  (k:∀b u,b∉fp->s.heap.get? b=some u->h'.get? b=some u) (hp:s.heap.objs.size<=p) (new:bq X.prog X.w (upd H p o) h' p o):Inv X jn σ (upd H p o) { s with heap:=h',toks:=t' }:=by
 have hn:H p=none:=I.hok.fresh hp;have nf:∀b u,H b=some u->b∉fp:=fun b u e z=>by rw[(hf b z).1]at e;cases e
 have nL:X.env.locals∉fp:=fun z=>(hf _ z).2.1 rfl;refine I.step (g':=s.gens) (d':=s.drawn) (ch:=fp) (fun b hb=>?_) (fun b u _ _ hc e _=>k b u hc e) (fun b u _ _ hc e _=>⟨u.slots,k b u hc e⟩)
  (fun b u _ e n=>by rw[af (KP (KN (KC e) hp))];exact n) (fun b u hc e=>⟨u,k b u hc e⟩)
  (fun b xs q=>by rw[af (au q hn)];exact q) (fun b u xs q=>by rw[af (au q hn)];exact q) (fun b _ _ _ q=>by rw[af (au q hn)];exact q) (fun m hm=>?_) (fun b u e=>?_) I.bare
 ·obtain⟨f0,f1,f2,f3,f4,f5⟩:=hf b hb;exact⟨f3,f1,f4,f5⟩
 ·obtain⟨o,es,ep,ho,r⟩:=hm;exact⟨o,es,ep,k _ o nL ho,r⟩
 ·by_cases hb:b=p
  ·subst hb;rw[aq]at e;cases e;exact new
  ·rw[af hb]at e;refine(I.hok b u e).stay (fun c v hc q=>k c v ?_ q) (fun c q=>by rw[af (au q hn)];exact q) (fun c _ _ q=>by rw[af (au q hn)];exact q) fun c xs q=>by rw[af (au q hn)];exact q
   rcases hc with z | z
   ·rw[z];exact nf b u e
   ·exact nf c _ z
noncomputable def Itv(K:gb)(a:Addr)(n:Nat):It:=
 ⟨fun i H=>∃xs x,SqL K H a xs/\xs.length=n/\xs.reverse[i]?=some x,fun i H x H'=>H'=H/\∀xs,SqL K H a xs->xs.reverse[i]?=some x,fun i H=>n<=i⟩
theorem wF{P:Program}{w:World}{K:gb}{tg:Expr}(a it:Addr)(n:Nat):Turn P w K tg (Itv K a n) [it] it (fun i h=>i<=n/\h.IsRevIter it a ((n:Int)-1-(i:Nat))) where
 mem:=by simp
 obj:=fun i h st b hb=>by
  have e:b=it:=by simpa using hb
  subst e;obtain⟨_,o,e,c,d⟩:=st;exact⟨o,e,fun v z=>by rw[d]at z;cases z⟩
 keep:=fun i h h' st k=>⟨st.1,st.2.at fun o e=>k it (by simp) o e⟩
 item:=by
  intro X hP hw hK hc i jn s σ H E I hf st hg;subst hP hw hK;obtain⟨xs,x,hq,hl,hx⟩:=hg;obtain⟨its,rv,p,hz⟩:=I.list hq;have hi:i<n:=by have:=(pe.mp hx).1;rw[LH,hl]at this;exact this
  rw[M1 (by lia),hl]at hx;obtain⟨u,hu,ru⟩:=rv.get hx;obtain⟨f0,f1,f2,f3,f4,f5⟩:=hf it (by simp);obtain⟨_,st⟩:=st;have ei:((n:Int)-1-(i:Nat))=((n-1-i:Nat):Int):=by lia
  rw[ei]at st;refine wpAny_pyNext_rev_item st p.isList (x:=u) (by simpa using hu) fun h' st' sb=>?_;have ej:((n-1-i:Nat):Int)-1=(n:Int)-1-((i+1:Nat):Int):=by lia
  rw[ej]at st';have I1:Inv X jn σ H { s with heap:=h' }:=I.turned (t':=s.toks) (fun b o hb e=>(sb.2 b hb).trans e) f0 f1 f3 f4 f5;obtain⟨o,e,c,d⟩:=id st';refine⟨u,rfl,oX (s:={ s with heap:=h' }) e c d (by decide) ⟨x,H,I1,ru,⟨rfl,fun ys hy=>?_⟩,⟨hi,st'⟩,fun b hb=>(hf b hb).1⟩⟩;rw[I.eU hy hq,M1 (by lia),hl];exact hx
 done:=by
  intro X hP hw hK hc i jn s σ H E I hf st hg;subst hP hw hK;obtain⟨f0,f1,f2,f3,f4,f5⟩:=hf it (by simp);obtain⟨h1,st⟩:=st;have h2:n<=i:=hg;have ei:((n:Int)-1-(i:Nat))=-1:=by lia
  rw[ei]at st;exact wpAny_pyNext_rev_end (I.ok.hd hc) st fun h' eb=>⟨rfl,I.turned (t':=s.toks) (fun b o hb e=>eb b o hb e) f0 f1 f3 f4 f5⟩
 self:=fun _ _ _ _ _ st h=>wpAny_pyIter_revIter st.2 h
def B3(K:gb)(tl:TE):TI:=fun σ H R=>tl σ H fun x H1=>∃a xs,x=.ref a/\SqL K H1 a xs/\R (Itv K a xs.length) H1
section
variable{X:Cx}{tg l:Expr}{tl:TE}{p pos:Pos}
theorem wG{Q:Value->Shared->Prop}{Qx:VK}{jn:List (Addr×Obj)}{s:Shared}{σ:L2.St}{H:Hp}(hg:Gl X "reversed")(hm:X.mg "reversed" = none)(hl:PE X l tl)(hs:starEach [l] X.env=[(false,eval l X.env)])(I:Inv X jn σ H s)(h:tl σ H Qx)
  (k:∀x H1 s1,Inv X jn σ H1 s1->Qx x H1->∃a xs,x=.ref a/\SqL X.K H1 a xs/\∀its:List Value,Vals xs its->PlainL s1.heap a its.toArray->xs.length<=sizeLine->Q (.ref s1.heap.objs.size) { s1 with heap:=s1.heap.push (revObj a ((its.toArray.size:Int)-1)) }) :
  wpAny (model X.prog X.w) X.A (eval (.Call (.Name "reversed" p) [l] [] pos) X.env) Q X.xe s:=by
 refine Call_ (cD I hg hm boot_reversed (K6 (spliced_more ?_ (by rw[hs];rfl)) (by rw[hs];rfl) rfl));refine thn (hl jn s σ H _ I h) fun v s1 ⟨x,H1,I1,r1,q1⟩=>?_;obtain⟨a,xs,e,hq,q⟩:=k x H1 s1 I1 q1;subst e;cases r1;obtain⟨its,rv,pl,hz⟩:=I1.list hq;refine Mt (call_reversed_list pl.isList (q its rv pl hz))
theorem Ey(hg:Gl X "reversed")(hm:X.mg "reversed" = none)(hl:PE X l tl)(hs:starEach [l] X.env=[(false,eval l X.env)]:=by rfl):PI X tg (.Call (.Name "reversed" p) [l] [] pos) (B3 X.K tl):=by
 intro jn s σ H R I h;refine wG hg hm hl hs I h fun x H1 s1 I1 q1=>?_;obtain⟨a,xs,e,hq,q⟩:=q1;refine⟨a,xs,e,hq,fun its rv pl hz=>?_⟩;have hn:(its.toArray.size:Int)=((xs.length:Nat):Int):=by rw[Ky,rv.length]
 have st:({ s1 with heap:=s1.heap.push (revObj a ((its.toArray.size:Int)-1)) }:Shared).heap.IsRevIter s1.heap.objs.size a (((xs.length:Nat):Int)-1-((0:Nat):Int)):=⟨_,KU _ rfl,rfl,by rw[hn];simp[revObj]⟩
 refine wpAny_pyIter_revIter st ?_;refine⟨s1.heap.objs.size,[s1.heap.objs.size],_,_,H1,rfl,I1.kept (t':=s1.toks) fun b o e=>Ds _ e,wF a _ xs.length,⟨Lc _,st⟩,fun b hb=>?_,q⟩;have e:b=s1.heap.objs.size:=by simpa using hb
 subst e;exact I1.oW (Nat.le_refl _) (I1.hok.fresh (Nat.le_refl _))
end
noncomputable def Ite(K:gb)(a:Addr):It:=
 ⟨fun i H=>∃xs x,SqL K H a xs/\xs[i]?=some x,fun i H x H'=>∃p v,H p=none/\x=.ref p/\H'=upd H p (.tup [.int i,v])/\∀xs,SqL K H a xs->xs[i]?=some v,fun i H=>∃xs,SqL K H a xs/\xs.length<=i⟩
theorem uJ{P:Program}{w:World}{K:gb}{elts:List Expr}{x1}{tp:Pos}(a e it:Addr)(Ii:e≠it):Turn P w K (.Tuple elts x1 tp) (Ite K a) [e,it] e (fun i h=>(∃old,IsEnum h e it (i:Nat) old)/\h.IsListIter it a i) where
 mem:=by simp
 obj:=fun i h st b hb=>by
  obtain⟨⟨old,he⟩,o,e1,c,d⟩:=st;rcases KD.mp hb with rfl | hb
  ·exact ⟨_,he,fun v z=>by have z':NQ _=Nl v:=z;cases z'⟩
  ·have e2:b=it:=by simpa using hb
   subst e2;exact⟨o,e1,fun v z=>by rw[d]at z;cases z⟩
 keep:=fun i h h' st k=>⟨let ⟨old,he⟩:=st.1;⟨old,k e (by simp) _ he⟩,st.2.at fun o z=>k it (by simp) o z⟩
 item:=by
  intro X hP hw hK hc i jn s σ H E I hf st hg;subst hP hw hK;obtain⟨xs,x,hq,hx⟩:=hg;obtain⟨its,rv,p,hz⟩:=I.list hq;obtain⟨u,hu,ru⟩:=rv.get hx;obtain⟨⟨old,he⟩,Cp⟩:=st;refine wpAny_pyNext_enum_item he Cp p.isList (x:=u) (by simpa using hu) Ii fun h1 heo JK ht1 hz1 hk1=>?_;refine⟨_,rfl,wpAny_letOwnedTupleGo_enum heo fun h2 he2 hs2=>?_⟩;have Cs:e<s.heap.objs.size:=KC he;have ht2:h2.get? s.heap.objs.size=some { cls:=.type "tuple",data:=.seq #[.int i s.toks,u] }:=(hs2.2 _ (LM Cs)).trans ht1;have k2:∀b o,b∉[e,it]->s.heap.get? b=some o->h2.get? b=some o:=fun b o hb z=>by have n1:b≠e:=fun y=>hb (by simp[y]);have n2:b≠it:=fun y=>hb (by simp[y]);exact(hs2.2 b n1).trans (hk1 b o n1 n2 z)
  have hn:H s.heap.objs.size=none:=I.hok.fresh (Nat.le_refl _);have I2:Inv X jn σ (upd H s.heap.objs.size (.tup [.int i,x])) { s with heap:=h2,toks:=s.toks+1 }:=
   l6 I hf k2 (Nat.le_refl _) ⟨by simp[sizeLine],[.int i s.toks,u],.cons ⟨s.toks,rfl⟩ (.cons ru .nil),_,ht2,rfl,_,rfl⟩
  refine⟨.ref s.heap.objs.size,_,I2,rfl,⟨_,x,hn,rfl,rfl,fun ys hy=>by rw[I.eU hy hq];exact hx⟩,⟨⟨u,?_⟩,?_⟩,fun b hb=>?_⟩
  ·have:(((i+1:Nat):Int))=(i:Int)+1:=by lia
   rw[this];exact he2
  ·exact JK.at fun o z=>(hs2.2 it (Lg Ii)).trans z
  ·have hb1:b≠s.heap.objs.size:=fun y=>by
    rcases KD.mp hb with z | z
    ·rw[y]at z;exact absurd z (LM Cs)
    ·have z':b=it:=by simpa using z
     obtain⟨o,ho,_⟩:=Cp;have:=KC ho;rw[<- z',y]at this;exact Ls _ this
   rw[af hb1];exact(hf b hb).1
 done:=by intro X hP hw hK hc i jn s σ H E I hf st hg;subst hP hw hK;obtain⟨xs,hq,hx⟩:=hg;obtain⟨its,rv,p,hz⟩:=I.list hq;obtain⟨f0,f1,f2,f3,f4,f5⟩:=hf it (by simp);obtain⟨⟨old,he⟩,Cp⟩:=st;have hl:=rv.length;exact wpAny_pyNext_enum_end (I.ok.hd hc) he Cp p.isList (by simp;lia) fun h' eb=>⟨rfl,I.turned (t':=s.toks) (fun b o hb e=>eb b o hb e) f0 f1 f3 f4 f5⟩
 self:=fun A i s Q E st h=>by
  obtain⟨⟨old,he⟩,Cp⟩:=st;have hT:s.TypeIs (.ref e) "enumerate" := ⟨_,he,rfl⟩
  refine wpAny_pyIter_slot hT F.slot_enumerate_iter (wpAny_call_entry F.slot_enumerate_iter hT F.entry_enumerate_iter ?_ (F.args_enumerate_iter_1 _));show wpAny _ _ (ret (.ref e)) _ _ s;exact wpAny_pure ⟨_,rfl,"enumerate",_,hT,F.slot_enumerate_next.lookup,h⟩
def Hw(K:gb)(tl:TE):TI:=fun σ H R=>tl σ H fun x H1=>∃a,x=.ref a/\(∃xs,SqL K H1 a xs)/\R (Ite K a) H1
section
variable{X:Cx}{l:Expr}{tl:TE}{p pos:Pos}{elts:List Expr}{x1:Nat}{tp:Pos}
theorem zW(hg:Gl X "enumerate")(hm:X.mg "enumerate" = none)(hl:PE X l tl)(hs:starEach [l] X.env=[(false,eval l X.env)]:=by rfl):PI X (.Tuple elts x1 tp) (.Call (.Name "enumerate" p) [l] [] pos) (Hw X.K tl):=by
 intro jn s σ H R I h;refine Call_ (cD I hg hm boot_enumerate (K6 (spliced_more ?_ (by rw[hs];rfl)) (by rw[hs];rfl) rfl));refine thn (hl jn s σ H _ I h) fun v s1 ⟨x,H1,I1,r1,q1⟩=>?_;obtain⟨a,e,⟨xs,hq⟩,q⟩:=q1;subst e;cases r1;obtain⟨its,rv,pl,hz⟩:=I1.list hq;refine Mt (call_enumerate_list pl.isList fun h' he Cp hsz k=>?_);have I2:Inv X jn σ H1 { s1 with heap:=h' }:=I1.kept (t':=s1.toks) k;have T:=uJ (P:=X.prog) (w:=X.w) (K:=X.K) (elts:=elts) (x1:=x1) (tp:=tp) a (s1.heap.objs.size+1) s1.heap.objs.size (Nat.succ_ne_self _);refine T.self X.A 0 { s1 with heap:=h' } _ X.xe ⟨⟨_,he⟩,Cp⟩ ?_;refine⟨s1.heap.objs.size+1,[s1.heap.objs.size+1,s1.heap.objs.size],_,_,H1,rfl,I2,T,⟨⟨_,he⟩,Cp⟩,fun b hb=>?_,q⟩;have:s1.heap.objs.size<=b:=by
  rcases KD.mp hb with rfl | hb
  ·exact Nk _
  ·have:b=s1.heap.objs.size:=by simpa using hb
   exact L3 this.symm
 exact I1.oW this (I1.hok.fresh this)
end
theorem qP:typeLookup (.type "list_reverseiterator") "__len__" = pure none:=by rw[typeLookup_type,builtinLookup_eq_fast];kernel_rfl
theorem wH:typeLookup (.type "list_reverseiterator") "__length_hint__" = pure (some (.builtin "list_reverseiterator.__length_hint__")):=by rw[typeLookup_type,builtinLookup_eq_fast];kernel_rfl
section
variable{prog:Program}{w:World}{A:Around}{E:Value->Shared->Prop}{s:Shared}
section
variable{I l:Addr}
theorem wI{i:Int}{Q:Bool->Shared->Prop}(Cp:s.heap.IsRevIter I l i)(h:Q false s):wpAny (model prog w) A (Builtin.List.listLengthHint (.ref I)) Q E s:=by
 unfold Builtin.List.listLengthHint;refine wpAny_bind (wpAny_specialOf Cp.typeIs qP ?_);show wpAny _ A (specialOf (LD I) (NB "__length_hint__") >>= _) _ _ _;refine wpAny_bind (wpAny_specialOf Cp.typeIs wH ?_)
 generalize hid:("list_reverseiterator.__length_hint__" : String)=id0
 wp_delta
 rw[show splitId id0=some ("list_reverseiterator","__length_hint__") from by subst hid;decide +kernel];subst hid;refine wpAny_bind (wpAny_isInstance (T := "list_reverseiterator") (b:=true) Cp.typeIs (by rw[isSubtype_type];kernel_rfl) ?_);refine wpAny_ite_split (fun Im=>absurd Im (by decide)) (fun _=>?_);refine wpAny_ite_split (fun _=>?_) (fun Im=>absurd (by decide +kernel) Im);refine wpAny_ite_split (fun Im=>absurd Im (by decide +kernel)) (fun _=>wpAny_pure h)
theorem qQ{R:Result->Shared->Prop}{items:Array Value}(hh:A.handled=none)(Cp:s.heap.IsRevIter I l ((items.size:Int)-1))(hl:s.heap.IsList l items)(Ii:l≠I)(xR:items.size<=sizeLine)
  (S:Addr) (res:Value) (c₀:Nat) (hSI:S≠I) (hSl:S≠l) (hS:s.heap.get? S=some { cls:=.type "list",data:=.seq #[] c₀ })
  (hR:∀ h' tk acc' c',(∀ b o,b≠S→b≠I→s.heap.get? b=some o→h'.get? b=some o)→h'.get? S=some { cls:=.type "list",dict:=none,data:=.seq acc' c',slots:=#[] } →
   ItemsOf (fun i v=>items[items.size-1-i]?=some v) acc' items.size->R (.ok (.ret res)) { s with heap:=h',toks:=tk }) :
  wpAny (model prog w) A.in1 (L8 (.ref S) (.ref I) res)
   (fun Cq s'=>match Cq with | .done f=>R (.ok f) s' | .again c'=>c'.quiet=true/\codeAny (model prog w) A c' R s') (fun e s'=>R (.error e) s') s:=by
 have hSf:S∉[I,l]:=fun hm=>by
  rcases KD.mp hm with z | z
  ·exact hSI z
  ·exact hSl (KS.mp z)
 have W:=(Walks.listRev (prog:=prog) (w:=w) (A:=A.in1) hh I l Ii items).toS;unfold L8;refine wpAny_bind (wpAny_typeOf (T := "list_reverseiterator") Cp.typeIs ?_);have h1:Builtin.List.listSameRef (.ref S) (.ref I)=false:=by simp[Builtin.List.listSameRef,hSI]
 have h2:(ML "list_reverseiterator" == ML "list")=false:=by decide
 have h3:(ML "list_reverseiterator" == ML "tuple")=false:=by decide
 simp only[h1,h2,h3,Bool.or_false,L7,if_false];refine wpAny_bind (wpAny_pyIter_revIter Cp ?_);refine wpAny_bind (wpAny_holding (wI Cp ?_));refine wpAny_ite_split (fun Im=>absurd Im (by decide +kernel)) (fun _=>wpAny_pure ⟨plainId_quiet F.plain_extend_loop _,?_⟩);have hst:(0<=items.size)/\s.heap.IsRevIter I l ((items.size:Int)-1-((0:Nat):Int))/\s.heap.IsList l items:=⟨Lc _,by simpa using Cp,hl⟩
 refine codeAny_extend_loopS W xR S hSf res items.size 0 _ #[] c₀ rfl (Lc _) hst hS (ItemsOf.nil _) fun s' acc' c' hm hS' hacc=>?_;rw[Moved.eq_with hm];refine hR s'.heap s'.toks acc' c' (fun b o hb hb2 e=>hm.heap b o (fun hmem=>?_) e) hS' hacc;rcases KD.mp hmem with e' | hmem
 ·exact hb e'
 ·exact hb2 (KS.mp hmem)
theorem wJ{R:Result->Shared->Prop}{items:Array Value}(hh:A.handled=none)(Cp:s.heap.IsRevIter I l ((items.size:Int)-1))(hl:s.heap.IsList l items)(Ii:l≠I)(xR:items.size<=sizeLine)
  (S:Addr) (hSI:S≠I) (hSl:S≠l) (hS:s.heap.get? S=some { cls:=.type "list",data:=.seq #[] })
  (hR:∀ h' tk acc' c',(∀ b o,b≠S→b≠I→s.heap.get? b=some o→h'.get? b=some o)→h'.get? S=some { cls:=.type "list",dict:=none,data:=.seq acc' c',slots:=#[] } →
   ItemsOf (fun i v=>items[items.size-1-i]?=some v) acc' items.size->R (.ok (.ret .none)) { s with heap:=h',toks:=tk }) :
  wpAny (model prog w) A.in1 (Builtin.«list.__init__» ⟨[.ref S,.ref I],[]⟩)
   (fun Cq s'=>match Cq with | .done f=>R (.ok f) s' | .again c'=>c'.quiet=true/\codeAny (model prog w) A c' R s') (fun e s'=>R (.error e) s') s:=by
 show wpAny _ A.in1 (do let old <- Builtin.List.listItems (.ref S);Builtin.List.listUpdate (.ref S) (fun _=>#[]);letGo old.toList.reverse;L8 (.ref S) (.ref I) .none) _ _ s;refine wpAny_bind ?_;unfold Builtin.List.listItems;refine wpAny_bind (wpAny_seqItems hS rfl (wpAny_pure ?_));show wpAny _ A.in1 (updateSeq S (fun _=>#[]) >>= fun _=>letGo (#[]:Array Value).toList.reverse >>= fun _=>L8 (.ref S) (.ref I) .none) _ _ s;refine wpAny_bind (wpAny_updateSeq hS rfl ?_);have hS₂:=Heap.get?_update_self (K0 (fun _=>(#[]:Array Value))) hS rfl;have oth:∀b o,b≠S->s.heap.get? b=some o->(s.heap.update S (K0 (fun _=>(#[]:Array Value)))).get? b=some o:=
  fun b o hb e=>(MV _ _ (Lg hb)).trans e
 refine wpAny_bind (wpAny_letGo ?_);refine qQ hh (Cp.at fun o e=>oth I o (Lg hSI) e) (hl.at fun o e=>oth l o (Lg hSl) e) Ii xR S .none _ hSI hSl hS₂ fun h' tk acc' c' hk hS' hacc=>?_;exact hR h' tk acc' c' (fun b o hb hb2 e=>hk b o hb hb2 (oth b o hb e)) hS' hacc
theorem lD{Q:Value->Shared->Prop}{items:Array Value}(hh:A.handled=none)(Cp:s.heap.IsRevIter I l ((items.size:Int)-1))(hl:s.heap.IsList l items)(Ii:l≠I)(xR:items.size<=sizeLine)
  (hQ:∀ h' tk acc' c',(∀ b o,b≠I→s.heap.get? b=some o→h'.get? b=some o)→h'.get? s.heap.objs.size=some { cls:=.type "list",dict:=none,data:=.seq acc' c',slots:=#[] } →
   ItemsOf (fun i v=>items[items.size-1-i]?=some v) acc' items.size->Q (.ref s.heap.objs.size) { s with heap:=h',toks:=tk }) :
  wpAny (model prog w) A (call (.type "list") [.ref I]) Q E s:=by
 refine callType_codes (Q₁:=fun obj s₁=>obj=.ref s.heap.objs.size/\s₁={ s with heap:=s.heap.push { cls:=.type "list",data:=.seq #[] } }) F.called_list (F.typeCall_list_1 _) F.entry_list_init
  (code_list_new _ ⟨rfl,rfl⟩) fun obj s₁ h₁=>?_
 obtain⟨rfl,rfl⟩:=h₁;have hS:(s.heap.push { cls:=.type "list",data:=.seq #[] }).get? s.heap.objs.size=some { cls:=.type "list",data:=.seq #[] }:=KU _ rfl;obtain⟨oi,hoi,_⟩:=id Cp;obtain⟨ol,hol,_⟩:=id hl;refine⟨⟨_,hS,rfl⟩,F.args_list_init_2 _ _,wJ (A:=A.in1) hh (Cp.at fun o e=>Ds _ e) (hl.at fun o e=>Ds _ e) Ii xR _ (LM (KC hoi)) (LM (KC hol)) hS fun h' tk acc' c' hk hS' hacc=>?_⟩;exact⟨rfl,hQ h' tk acc' c' (fun b o hb e=>hk b o (KP (KC e)) hb (Ds _ e)) hS' hacc⟩
end
end
theorem j_{P:Nat->Value->Prop}{AR:Array Value}{ys:List V}(h:ItemsOf P AR ys.length)(k:∀i v,P i v->i<ys.length->∃y,ys[i]?=some y/\RelV y v):Vals ys AR.toList:=by
 have:∀(ys:List V) (us:List Value),ys.length=us.length->(∀(i:Nat) (u:Value),us[i]?=some u->∃y,ys[i]?=some y/\RelV y u)->Vals ys us:=by
  intro ys
  induction ys with
  |nil=>intro us e _;cases us with
   |nil=>exact .nil
   |cons _ _=>cases e
  |cons y ys ih=>intro us e f;cases us with
   |nil=>cases e
   |cons u us=>obtain⟨y',h1,h2⟩:=f 0 u rfl;cases h1;exact .cons h2 (ih us (by simpa using e) fun i u' hu=>by simpa using f (i+1) u' (by simpa using hu))
 refine this ys AR.toList (by have:=h.1;simp only[KR];exact this.symm) fun i u hu=>?_;have hu':AR[i]?=some u:=by rw[<- LL];exact hu
 have hi:i<ys.length:=by rw[<- h.1];exact(Array.getElem?_eq_some_iff.mp hu').1
 exact k i u (h.2 i u hu') hi
def Ez(K:gb)(tl:TE):TE:=fun σ H Q=>tl σ H fun x H1=>∃a xs,x=.ref a/\SqL K H1 a xs/\∀q,H1 q=none->Q (.ref q) (upd H1 q (.lst xs.reverse))
def Hy(ta:TA):TE:=fun σ H Q=>ta σ H fun vs H1=>∃j:Int,vs=[.int j]/\-(2 ^ 62)<=j/\j<=1000000/\∀q,H1 q=none->Q (.ref q) (upd H1 q (.lst ((KY j.toNat).map fun i=>V.int (i:Nat))))
section
variable{X:Cx}{l a:Expr}{tl:TE}{ta:TA}{p pos p0 jl:Pos}
theorem wK(hc:X.calm=true)(hgl:Gl X "list")(hml:X.mg "list" = none)(hg:Gl X "reversed")(hm:X.mg "reversed" = none)(hl:PE X l tl)(hs:starEach [l] X.env=[(false,eval l X.env)]:=by rfl)
  (hs0:starEach [.Call (.Name "reversed" p) [l] [] pos] X.env=[(false,eval (.Call (.Name "reversed" p) [l] [] pos) X.env)]:=by rfl) :
  PE X (.Call (.Name "list" p0) [.Call (.Name "reversed" p) [l] [] pos] [] jl) (Ez X.K tl):=by
 intro jn s σ H Q I h;refine wpAny_Call_Name_kw (cD I hgl hml boot_list (K6 (spliced_more ?_ (by rw[hs0];rfl)) (by rw[hs0];rfl) rfl));refine wG hg hm hl hs I h fun x H1 s1 I1 q1=>?_;obtain⟨a,xs,e,hq,q⟩:=q1;refine⟨a,xs,e,hq,fun its rv pl hz=>Mt ?_⟩;have hal:a<s1.heap.objs.size:=by obtain⟨o,ho,_⟩:=pl.isList;exact KC ho
 have hn:=rv.length;refine lD (items:=its.toArray) (I.ok.hd hc) ⟨_,KU _ rfl,rfl,rfl⟩ (pl.isList.at fun o e=>Ds _ e) (KP hal) (by rw[Ky,<- hn];exact hz) fun h' tk acc' c' hk hS' hacc=>?_;have hsz:({ s1 with heap:=s1.heap.push (revObj a ((its.toArray.size:Int)-1)) }:Shared).heap.objs.size=s1.heap.objs.size+1:=Mk ..;have hp:s1.heap.objs.size<=({ s1 with heap:=s1.heap.push (revObj a ((its.toArray.size:Int)-1)) }:Shared).heap.objs.size:=by rw[hsz];exact Nk _
 have vl:Vals xs.reverse acc'.toList:=by
  refine j_ (by rw[LH,hn,<- Ky];exact hacc) fun i v hv hi=>?_;rw[LH]at hi;rw[Ky]at hv;have hv':its[its.length-1-i]?=some v:=by simpa using hv
  rw[M1 hi,hn];have Cs:=(pe.mp hv').1;have hx:xs[its.length-1-i]?=some (xs[its.length-1-i]'(by lia)):=KG _;obtain⟨u,hu,ru⟩:=rv.get hx;rw[hv']at hu;cases hu;exact⟨_,hx,ru⟩
 have ok:bq X.prog X.w (upd H1 ({ s1 with heap:=s1.heap.push (revObj a ((its.toArray.size:Int)-1)) }:Shared).heap.objs.size (.lst xs.reverse)) h' ({ s1 with heap:=s1.heap.push (revObj a ((its.toArray.size:Int)-1)) }:Shared).heap.objs.size (.lst xs.reverse):=⟨by rw[LH];exact hz,acc'.toList,c',vl,by simpa using hS'⟩
 exact⟨.ref _,_,I1.laid (t':=tk) (fun b u e=>hk b u (KP (KC e)) (Ds _ e)) hp ok,rfl,q _ (I1.hok.fresh hp)⟩
theorem zX(hc:X.calm=true)(hgl:Gl X "list")(hml:X.mg "list" = none)(hg:Gl X "range")(hm:X.mg "range" = none)(ha:PA X [a] ta)(hs:starEach [a] X.env=[(false,eval a X.env)]:=by rfl)
  (hs0:starEach [.Call (.Name "range" p) [a] [] pos] X.env=[(false,eval (.Call (.Name "range" p) [a] [] pos) X.env)]:=by rfl) :
  PE X (.Call (.Name "list" p0) [.Call (.Name "range" p) [a] [] pos] [] jl) (Hy ta):=by
 intro jn s σ H Q I h;refine wpAny_Call_Name_kw (cD I hgl hml boot_list (K6 (spliced_more ?_ (by rw[hs0];rfl)) (by rw[hs0];rfl) rfl));refine Call_ (cD I hg hm boot_range (K6 (thn (ha pos jn s σ H _ I h) fun us s1 ⟨vs,H1,I1,r1,q1⟩=>?_) hs rfl));obtain⟨j,e,q1,q2,q⟩:=q1;subst e;cases r1 with
 |cons r rr=>
  cases rr;obtain⟨t,rfl⟩:=r;refine call_range_1 (Mt ?_);have hn:L4 0 j 1=(j.toNat:Nat):=by rw[rangeSize_one];split<;>lia
  refine call_list_range (n:=j.toNat) (I.ok.hd hc) (IsRange.new ..) (small_one (by lia) (by lia) q1 (by lia)) hn (by lia) fun h' tk acc' c' hk hS' hacc=>?_;have hsz:(s1.heap.push { cls:=.type "range",data:=.fields #[.int 0 s1.toks,.int j t,.int 1 (s1.toks+1)] }).objs.size=s1.heap.objs.size+1:=Mk ..;have hp:s1.heap.objs.size<=(s1.heap.push { cls:=.type "range",data:=.fields #[.int 0 s1.toks,.int j t,.int 1 (s1.toks+1)] }).objs.size:=by rw[hsz];exact Nk _
  have vl:Vals ((KY j.toNat).map fun i=>V.int (i:Nat)) acc'.toList:=by
   refine j_ (by rw[gp,Lk];exact hacc) fun i v hv hi=>?_;obtain⟨t,rfl⟩:=hv;rw[gp,Lk]at hi;refine⟨.int (i:Nat),by rw[KZ,Mm hi];rfl,t,?_⟩;have:(0:Int)+(i:Int)*1=i:=by lia
   rw[this]
  have ok:bq X.prog X.w (upd H1 (s1.heap.push { cls:=.type "range",data:=.fields #[.int 0 s1.toks,.int j t,.int 1 (s1.toks+1)] }).objs.size (.lst ((KY j.toNat).map fun i=>V.int (i:Nat)))) h' (s1.heap.push { cls:=.type "range",data:=.fields #[.int 0 s1.toks,.int j t,.int 1 (s1.toks+1)] }).objs.size (.lst ((KY j.toNat).map fun i=>V.int (i:Nat))):=
   ⟨by rw[gp,Lk,sizeLine_eq];lia,acc'.toList,c',vl,by simpa using hS'⟩
  exact⟨.ref _,_,I1.laid (t':=tk) (fun b u e=>hk b u (Ds _ e)) hp ok,rfl,q _ (I1.hok.fresh hp)⟩
end
section
variable{ds:List Dat}{xs:List V}{a:Addr}{H0:Hp}
theorem av.rev{H:Hp}(h:av H xs ds):av H xs.reverse ds.reverse:=by
 induction xs generalizing ds with
 |nil=>cases h;exact .nil
 |cons x xs ih=>
  cases h with
  |cons r rs=>rw[Nv,Nv];exact(ih rs).append (.cons r .nil)
theorem EA{K:gb}(hq:Rd H0 a (.lst xs))(rs:av H0 xs ds):JW (Itv K a xs.length) H0 ds.reverse:=by intro H0' H s0 s1;have q:SqL K H a xs:=.inl (ah.rd s1 (ah.rd s0 hq));refine⟨fun i hi=>by rw[LH,<- rs.length]at hi;exact hi,fun i d e=>?_⟩;obtain⟨v,hv,rv⟩:=rs.rev.get e;refine⟨⟨xs,v,q,rfl,hv⟩,fun x H' y=>?_⟩;obtain⟨e1,y⟩:=y;subst e1;have z:=y xs q;rw[hv]at z;cases z;exact⟨H0',aJ.refl s1,rv.mono s0⟩
theorem pJ:∀(ds:List Dat) (i:Nat),(Dm.g6 i ds).length=ds.length
 |[],_=>rfl
 |_::ds,i=>by simp[Dm.g6,pJ ds]
theorem pK:∀(ds:List Dat) (i j:Nat) (d:Dat),(Dm.g6 i ds)[j]?=some d->∃x,ds[j]?=some x/\d=.tup [.int ((i+j:Nat):Int),x]
 |[],_,_,_,h=>by cases h
 |x::ds,i,0,d,h=>by cases h;exact⟨x,rfl,rfl⟩
 |x::ds,i,j+1,d,h=>by
  obtain⟨y,h1,h2⟩:=pK ds (i+1) j d h;refine⟨y,h1,?_⟩;rw[h2];have:i+1+j=i+(j+1):=by lia
  rw[this]
theorem zY{K:gb}(hq:Rd H0 a (.lst xs))(rs:av H0 xs ds):JW (Ite K a) H0 (Dm.g6 0 ds):=by intro H0' H s0 s1;have q:SqL K H a xs:=.inl (ah.rd s1 (ah.rd s0 hq));refine⟨fun i hi=>⟨xs,q,by rw[rs.length,<- pJ ds 0];exact hi⟩,fun i d e=>?_⟩;obtain⟨d',hd,rfl⟩:=pK ds 0 i d e;obtain⟨v,hv,rv⟩:=rs.get hd;refine⟨⟨xs,v,q,hv⟩,fun x H' y=>?_⟩;obtain⟨p,v',hn,rfl,rfl,y⟩:=y;have z:=y xs q;rw[hv]at z;cases z;have g:=aJ.zA (o:=HO.tup [.int i,v]) s1 hn;refine⟨_,g,.tup aq (.cons ?_ (.cons ((rv.mono s0).mono g.s0) .nil))⟩;rw[My];exact .int _
end
section
variable{σ:L2.St}{H:Hp}{R:It->Hp->Prop}
theorem EB{K:gb}{f:FE}(h:tDI (Dm.uI f) σ H R):B3 K (tD f) σ H R:=by
 obtain⟨H0,ρ,ys,ρ',st,e,k⟩:=h;unfold Dm.uI at e;split at e
 ·cases e
 rename_i x ρ1 e1;split at e
 ·rename_i ds ρ2 e2;cases e;refine⟨H0,ρ,_,ρ1,st,e1,fun v H0' H' t r=>?_⟩;obtain⟨H1,t1,b1,r1,_,_⟩:=take1 t (ah.refl _) r e2;cases r1 with
  |lst q rs=>exact⟨_,_,rfl,.inl (ah.rd t1.st.same q),k _ H1 H' t1 (EA q rs)⟩
 ·cases e
theorem Hz{K:gb}{f:FE}(h:tDI (Dm.iEn f) σ H R):Hw K (tD f) σ H R:=by
 obtain⟨H0,ρ,ys,ρ',st,e,k⟩:=h;unfold Dm.iEn at e;split at e
 ·cases e
 rename_i x ρ1 e1;split at e
 ·rename_i ds ρ2 e2;cases e;refine⟨H0,ρ,_,ρ1,st,e1,fun v H0' H' t r=>?_⟩;obtain⟨H1,t1,b1,r1,_,_⟩:=take1 t (ah.refl _) r e2;cases r1 with
  |lst q rs=>exact⟨_,rfl,⟨_,.inl (ah.rd t1.st.same q)⟩,k _ H1 H' t1 (zY q rs)⟩
 ·cases e
end
theorem wL{K:gb}:UnD (fun x H Q=>∃a xs,x=.ref a/\SqL K H a xs/\∀q,H q=none->Q (.ref q) (upd H q (.lst xs.reverse))) Dm.j0:=by
 intro H0 H x dx z Q s rx e k;unfold Dm.j0 at e;split at e
 ·cases e;obtain⟨a,us,rfl,qa,ra⟩:=bI s rx;exact⟨a,us,rfl,.inl qa,fun p hp=>k _ _ _ (aJ.lu s hp) ⟨p,rfl,hp,s.free hp,_,aq,ra.rev⟩⟩
 ·cases e
theorem wM{H:Hp}:∀(n:Nat) ,av H ((KY n).map fun i=>V.int (i:Nat)) (Dm.ups 0 n):=by
 intro n;unfold Dm.ups;have:∀l:List Nat,av H (l.map fun i=>V.int (i:Nat)) (l.map fun i=>Dat.int (0+(i:Nat))):=fun l=>by
  induction l with
  |nil=>exact .nil
  |cons x l ih=>rw[KA,KA,NC];exact .cons (.int _) ih
 exact this _
theorem zZ:CallD (fun xs H Q=>∃j:Int,xs=[.int j]/\-(2 ^ 62)<=j/\j<=1000000/\∀q,H q=none->Q (.ref q) (upd H q (.lst ((KY j.toNat).map fun i=>V.int (i:Nat))))) Dm.lZ:=by
 intro H0 H xs ds z Q s rx e k;unfold Dm.lZ at e;split at e
 ·rename_i j;split at e
  ·rename_i hb;cases e;cases rx with
   |cons r rr=>cases rr;cases ay r;exact⟨j,rfl,by lia,hb.1,fun p hp=>k _ _ _ (aJ.lu s hp) ⟨p,rfl,hp,s.free hp,_,aq,wM _⟩⟩
  ·cases e
 ·cases e
section
variable{X:Cx}{tg e a b c:Expr}{f fa fb fc:FE}{p pos p0 jl:Pos}{elts:List Expr}{x1:Nat}{tp:Pos}
theorem HA(hg:Gl X "reversed")(hm:X.mg "reversed" = none)(h:DE X e f)(hs:starEach [e] X.env=[(false,eval e X.env)]:=by rfl):DI X tg (.Call (.Name "reversed" p) [e] [] pos) (Dm.uI f):=PI.weak (Ey hg hm h hs) fun _ _ _=>EB
theorem JL(hg:Gl X "enumerate")(hm:X.mg "enumerate" = none)(h:DE X e f)(hs:starEach [e] X.env=[(false,eval e X.env)]:=by rfl):DI X (.Tuple elts x1 tp) (.Call (.Name "enumerate" p) [e] [] pos) (Dm.iEn f):=PI.weak (zW hg hm h hs) fun _ _ _=>Hz
theorem z0(hc:X.calm=true)(hgl:Gl X "list")(hml:X.mg "list" = none)(hg:Gl X "reversed")(hm:X.mg "reversed" = none)(h:DE X e f)(hs:starEach [e] X.env=[(false,eval e X.env)]:=by rfl)
  (hs0:starEach [.Call (.Name "reversed" p) [e] [] pos] X.env=[(false,eval (.Call (.Name "reversed" p) [e] [] pos) X.env)]:=by rfl) :
  DE X (.Call (.Name "list" p0) [.Call (.Name "reversed" p) [e] [] pos] [] jl) (Dm.e1 Dm.j0 f):=PE.weak (wK hc hgl hml hg hm h hs hs0) fun _ _ _=>GP wL
theorem EC(hc:X.calm=true)(hgl:Gl X "list")(hml:X.mg "list" = none)(hg:Gl X "range")(hm:X.mg "range" = none)(h:DA X [a] [fa])(hs:starEach [a] X.env=[(false,eval a X.env)]:=by rfl)
  (hs0:starEach [.Call (.Name "range" p) [a] [] pos] X.env=[(false,eval (.Call (.Name "range" p) [a] [] pos) X.env)]:=by rfl) :
  DE X (.Call (.Name "list" p0) [.Call (.Name "range" p) [a] [] pos] [] jl) (Dm.eB Dm.lZ [fa]):=PE.weak (zX hc hgl hml hg hm h hs hs0) fun _ _ _=>D0 zZ
end
end Br
namespace Dm
noncomputable def aS(i:Nat)(own:Nat)(bd:FB)(t:FT)(el:FE):FE:=fun ρ=>match ρ[i]? with
 | some (.ow (.lst ds))=>if ds.length≤SZ then (match cA bd t el ds (ρ.set i .un++Dk own .un) [] with
  |none=>none
  |some (ys,ρ2)=>some (.new (.lst ys),(ρ2.take ρ.length).set i (.ow (.lst ds)))) else none
 |_=>cB (iS (eV i)) own bd t el ρ
end Dm
namespace Br
open PySem PySem.Spec PyProof.Rows L2
theorem wN{K:gb}{H0:Hp}{a:Addr}{xs:List V}{ds:List Dat}(rs:av H0 xs ds):JWa (Itl K a) H0 (some (a,.lst xs)) ds:=by intro H0' H s0 s1 hq;have hq:=hq _ rfl;have q:SqL K H a xs:=.inl (.inl hq);refine⟨fun i hi=>⟨xs,q,by rw[rs.length];exact hi⟩,fun i d e=>?_⟩;obtain⟨v,hv,rv⟩:=rs.get e;refine⟨⟨xs,v,q,hv⟩,fun x H' y=>?_⟩;obtain⟨e1,y⟩:=y;subst e1;have z:=y xs q;rw[hv]at z;cases z;exact⟨H0',aJ.refl s1,rv.mono s0⟩
theorem sO{K:gb}{σ:L2.St}{H:Hp}{i own:Nat}{bd:Dm.FB}{g:TG}{t:FT}{el:FE}{is:List Nat}{Q:VK}(hb:BD is g bd)(hl:∀i∈is,σ.length<=i)(h:tD (Dm.aS i own bd t el) σ H Q) :
  tLC (fun σ H R=>oY K (tD (Dm.eV i)) σ H R\/vE K (tD (Dm.eV i)) σ H R) own g (tDT t) (tD el) σ H Q:=by
 obtain⟨H0,ρ,x,ρ',st,e,k⟩:=h;unfold Dm.aS at e;split at e
 ·rename_i ds eo;split at e
  case isFalse=>cases e
  rename_i hsz;split at e
  ·cases e
  rename_i ys ρ2 e2;cases e;refine .inl ⟨H0,ρ,.slot i,ρ,st,by unfold Dm.eV;rw[eo],fun v H0' H' t1 r=>?_⟩;obtain⟨a,qa,na,xs,ha,rs⟩:=t1.st.ow i _ eo;obtain⟨r1,_⟩:=r;rw[qa]at r1;cases r1;have nO:¬ai σ (ρ.set i .un) a:=fun z=>by obtain⟨j,d,hj,h1,h2⟩:=bH z;exact hj (t1.st.dis j i d _ a h1 eo h2 qa)
  have Cs:i<ρ.length:=(pe.mp eo).1;refine⟨a,rfl,⟨xs,.inl (.inl ha)⟩,fun D hD=>pD hb hl (t1.st.mask i) (fun q e=>by cases e;exact⟨ha,na,nO⟩) (wN rs) hsz e2 (fun v H1 Hc t2 r2 hpa=>?_) D hD⟩;obtain⟨ha2,na2⟩:=hpa _ rfl;rw[K8]at t2 r2;have oo:∀b,ai σ ((ρ2.take ρ.length).set i (.ow (.lst ds))) b->b=a\/ai σ (ρ2.take ρ.length) b:=fun b ⟨j,d,h1,h2⟩=>by
   by_cases q:i=j
   ·subst q;rw[qa]at h2;cases h2;exact .inl rfl
   ·rw[gc q]at h1;exact .inr ⟨j,d,h1,h2⟩
  have om:∀b,ai σ (ρ.set i .un) b->ai σ ρ b:=fun b z=>by obtain⟨j,d,hj,h1,h2⟩:=bH z;exact⟨j,d,h1,h2⟩
  have oa:ai σ ρ a:=⟨i,_,eo,qa⟩
  have nO2:¬ai σ (ρ2.take ρ.length) a:=fun z=>nO (t2.own a z);have wO:(ρ2.take ρ.length).length=ρ.length:=by rw[<- t2.st.len,st.len]
  refine k v H1 Hc (t1.trans ⟨⟨t2.st.same,by rw[K8];exact t2.st.len,fun j d h=>?_,fun j d h=>?_,fun j j' d d' b h1 h2 h3 h4=>?_⟩,t2.stp.wide om,fun b z=>?_,fun j z=>?_⟩) ?_
  ·by_cases q:i=j
   ·subst q;rw[KW (by rw[wO];exact Cs)]at h;cases h
   ·rw[gc q]at h;exact t2.st.sh j d h
  ·by_cases q:i=j
   ·subst q;rw[KW (by rw[wO];exact Cs)]at h;cases h;exact⟨a,qa,na2,xs,ha2,rs.mono t2.stp.s0⟩
   ·rw[gc q]at h;exact t2.st.ow j d h
  ·by_cases q:i=j
   ·subst q;by_cases q':i=j'
    ·exact q'
    ·rw[gc q']at h2;rw[qa]at h3;cases h3;exact absurd ⟨j',d',h2,h4⟩ nO2
   ·rw[gc q]at h1;by_cases q':i=j'
    ·subst q';rw[qa]at h4;cases h4;exact absurd ⟨j,d,h1,h3⟩ nO2
    ·rw[gc q']at h2;exact t2.st.dis j j' d d' b h1 h2 h3 h4
  ·rcases oo b z with rfl | z
   ·exact oa
   ·exact om b (t2.own b z)
  ·trivial
  ·obtain⟨D',e',n',no',n0',w'⟩:=r2;refine⟨D',e',t1.stp.gone n',fun z=>?_,n0',w'⟩;rcases oo D' z with rfl | z
   ·rw[n']at ha;cases ha
   ·exact no' z
 ·have h2:=qO (fi:=Dm.iS (Dm.eV i)) hb hl ⟨H0,ρ,x,ρ',st,e,k⟩;exact Hv h2
section
variable{X:Cx}{En tg:Expr}{Fq:List Expr}{scope:Scope}{pos px:Pos}{bd:Dm.FB}{is:List Nat}{t:FT}{f:FE}{x:Str}
theorem i_M(i:Nat)(h:DE X (.Name x px) (Dm.eV i)):PI X tg (.Name x px) (fun σ H R=>oY X.K (tD (Dm.eV i)) σ H R\/vE X.K (tD (Dm.eV i)) σ H R):=PI.or (rZ h) (vF h)
theorem eK(i:Nat)(nm own:List Str)(hg:TGc X nm scope own tg is bd)(hi:DE X (.Name x px) (Dm.eV i))(ht:∀cl C s H fp,DTs (aW X nm scope own cl C s H fp) Fq t)(he:∀cl C s H fp,DE (aW X nm scope own cl C s H fp) En f)
  (hc:X.calm=true:=by rfl) (hk:scope.kind=.function:=by rfl) (hS:jZ X.env.scope X.N nm scope=true:=by rfl) (hl:(is.all fun i=>decide (X.N.length<=i))=true:=by rfl) (hs:∀y,foldedSetIterable (.Name x px) X.env y=pure y:=by intro _;rfl) :
  DE X (.ListComp En [⟨tg,.Name x px,Fq,0⟩] scope pos) (Dm.aS i own.length bd t f):=by
 obtain⟨g,h1,h2⟩:=hg.ex;intro jn s σ H Q I h;exact sF hc (cO.of hS hk) (i_M i hi) h1 ht he hs jn s σ H Q I (sO h2 (fun i hi=>by rw[I.len];exact pI hl i hi) h)
theorem HB(j i:Nat)(nm own:List Str){y:Str}{py Ft:Pos}(hN:X.N.Nodup)(hg:TGc X nm scope own tg is bd)(hi:DE X (.Name x px) (Dm.eV i))(ht:∀cl C s H fp,DTs (aW X nm scope own cl C s H fp) Fq t)(he:∀cl C s H fp,DE (aW X nm scope own cl C s H fp) En f)
  (hc:X.calm=true:=by rfl) (hk:scope.kind=.function:=by rfl) (hS:jZ X.env.scope X.N nm scope=true:=by rfl) (hl:(is.all fun i=>decide (X.N.length<=i))=true:=by rfl) (hj:X.N[j]?=some y:=by rfl) (hy:Loc X.env.scope y:=by trivial)
  (hsw:swapsWith (.ListComp En [⟨tg,.Name x px,Fq,0⟩] scope pos) (some (.Name y py)) Ft.line X.env=pure true:=by rfl) (hs:∀y,foldedSetIterable (.Name x px) X.env y=pure y:=by intro _;rfl)
  (hf:X.fn y=true\/X.env.scope.names.lookup y=some .local:=by trivial):DS X (.Assign [.Name y py] (.ListComp En [⟨tg,.Name x px,Fq,0⟩] scope pos) Ft) (Dm.sA j (Dm.aS i own.length bd t f)):=by
 obtain⟨g,h1,h2⟩:=hg.ex;intro jn s σ H D I h;exact eY hN hj hy hc (cO.of hS hk) (i_M i hi) h1 ht he hsw hs hf jn s σ H D I (sO h2 (fun i hi=>by rw[I.len];exact pI hl i hi) (v7 h))
end
end Br
namespace Dm
noncomputable def fW:List Dat->List Dat->List Dat
 |x::xs,y::ys=>.tup [x,y]::fW xs ys
 |_,_=>[]
noncomputable def z5(a b:FE):FI:=fun ρ=>match eAs [a,b] ρ with
 | some (vs,ρ1)=>(match tks ρ1 vs with
  |some ([.lst xs,.lst ys],ρ2)=>some (fW xs ys,ρ2)
  |_=>none)
 |none=>none
end Dm
namespace Br
open PySem PySem.Spec PyProof.Rows L2
theorem gx{X:Cx}{jn:List (Addr×Obj)}{σ:L2.St}{H:Hp}{s:Shared}{h':Heap}{t':Nat}{fp:List Addr}(I:Inv X jn σ H s)(hf:∀b∈fp,jK X jn H b)
  (k:∀b u,b∉fp->s.heap.get? b=some u->h'.get? b=some u):Inv X jn σ H { s with heap:=h',toks:=t' }:=by
 have nf:∀b u,H b=some u->b∉fp:=fun b u e z=>by rw[(hf b z).1]at e;cases e
 have nL:X.env.locals∉fp:=fun z=>(hf _ z).2.1 rfl;refine I.step (g':=s.gens) (d':=s.drawn) (ch:=fp) (fun b hb=>?_) (fun b u _ _ hc e _=>k b u hc e) (fun b u _ _ hc e _=>⟨u.slots,k b u hc e⟩)
  (fun b u _ e n=>n) (fun b u hc e=>⟨u,k b u hc e⟩)
  (fun b xs q=>q) (fun b u xs q=>q) (fun _ _ _ _ q=>q) (fun m hm=>?_) (fun b u e=>?_) I.bare
 ·obtain⟨f0,f1,f2,f3,f4,f5⟩:=hf b hb;exact⟨f3,f1,f4,f5⟩
 ·obtain⟨o,es,ep,ho,r⟩:=hm;exact⟨o,es,ep,k _ o nL ho,r⟩
 ·refine(I.hok b u e).stay (fun c v hc q=>k c v ?_ q) (fun c q=>q) (fun _ _ _ q=>q) fun c xs q=>q;rcases hc with z | z
  ·rw[z];exact nf b u e
  ·exact nf c _ z
noncomputable def Itz(K:gb)(a b:Addr):It:=
 ⟨fun i H=>∃ xs ys x y,SqL K H a xs∧SqL K H b ys∧xs[i]?=some x∧ys[i]?=some y,
  fun i H r H'=>∃p x y,H p=none/\r=.ref p/\H'=upd H p (.tup [x,y])/\(∀xs,SqL K H a xs->xs[i]?=some x)/\∀ys,SqL K H b ys->ys[i]?=some y,
  fun i H=>∃xs ys,SqL K H a xs/\SqL K H b ys/\(xs.length<=i\/ys.length<=i)⟩
theorem fh{h:Heap}{a b:Addr}{o o':Obj}(ha:h.get? a=some o)(hb:h.get? b=some o')(n:o.cls≠o'.cls):a≠b:=fun z=>by subst z;rw[ha]at hb;cases hb;exact n rfl
structure nM(z TI TO i1 i2:Addr):Prop where
 TIz:TI≠z
 TOz:TO≠z
 i1z:i1≠z
 i2z:i2≠z
 TITO:TI≠TO
 TIi1:TI≠i1
 TIi2:TI≠i2
 TOi1:TO≠i1
 TOi2:TO≠i2
 i12:i1≠i2
def wQ(a b z TI TO i1 i2:Addr)(i:Nat)(h:Heap):Prop:=IsZip h z TI TO .none/\IsPair h TI (.ref i1) (.ref i2)/\(∃x y,IsPair h TO x y)/\h.IsListIter i1 a i/\h.IsListIter i2 b i
theorem pL{h:Heap}{a b z TI TO i1 i2:Addr}{i:Nat}{xs ys:Array Value}(F:nM z TI TO i1 i2)(st:wQ a b z TI TO i1 i2 i h)(ha:h.IsList a xs)(hb:h.IsList b ys):ZipApart z TI TO i1 i2 a b:=by
 obtain⟨s1,s2,⟨x,y,s3⟩,s4,s5⟩:=st;obtain⟨o4,e4,c4,_⟩:=s4;obtain⟨o5,e5,c5,_⟩:=s5;obtain⟨oa,ea,ca,_⟩:=ha;obtain⟨ob,eb,cb,_⟩:=hb;have d:∀{n m:String},n≠m->(ML n)≠(ML m):=fun q z=>q (by injection z);exact ⟨F.TIz,F.TOz,F.i1z,F.i2z,F.TITO,F.TIi1,F.TIi2,F.TOi1,F.TOi2,F.i12,
  fh ea s1 (by rw[ca];exact d (by decide)),fh ea s3 (by rw[ca];exact d (by decide)),fh ea e4 (by rw[ca,c4];exact d (by decide)),fh ea e5 (by rw[ca,c5];exact d (by decide)),
  fh eb s1 (by rw[cb];exact d (by decide)),fh eb s3 (by rw[cb];exact d (by decide)),fh eb e4 (by rw[cb,c4];exact d (by decide)),fh eb e5 (by rw[cb,c5];exact d (by decide))⟩
theorem wR{P:Program}{w:World}{K:gb}{elts:List Expr}{x1}{tp:Pos}(a b z TI TO i1 i2:Addr)(F:nM z TI TO i1 i2):Turn P w K (.Tuple elts x1 tp) (Itz K a b) [z,TI,TO,i1,i2] z (wQ a b z TI TO i1 i2) where
 mem:=by simp
 obj:=fun i h st c hc=>by
  obtain⟨s1,s2,⟨x,y,s3⟩,⟨o4,e4,c4,d4⟩,⟨o5,e5,c5,d5⟩⟩:=st;simp only[KD,Ml,or_false]at hc;rcases hc with rfl | rfl | rfl | rfl | rfl
  ·exact⟨_,s1,fun v q=>by have q':NQ _=Nl v:=q;cases q'⟩
  ·exact⟨_,s2,fun v q=>by have q':Data.seq _ _=Nl v:=q;cases q'⟩
  ·exact⟨_,s3,fun v q=>by have q':Data.seq _ _=Nl v:=q;cases q'⟩
  ·exact⟨o4,e4,fun v q=>by rw[d4]at q;cases q⟩
  ·exact⟨o5,e5,fun v q=>by rw[d5]at q;cases q⟩
 keep:=fun i h h' st k=>by obtain⟨s1,s2,⟨x,y,s3⟩,s4,s5⟩:=st;exact⟨k z (by simp) _ s1,k TI (by simp) _ s2,⟨x,y,k TO (by simp) _ s3⟩,s4.at fun o q=>k i1 (by simp) o q,s5.at fun o q=>k i2 (by simp) o q⟩
 item:=by
  intro X hP hw hK hc i jn s σ H E I hf st hg;subst hP hw hK;obtain⟨xs,ys,x,y,hq,hq',hx,hy⟩:=hg;obtain⟨its,rv,p,hz⟩:=I.list hq;obtain⟨its',rv',p',hz'⟩:=I.list hq';obtain⟨u,hu,ru⟩:=rv.get hx;obtain⟨u',hu',ru'⟩:=rv'.get hy;have D:=pL F st p.isList p'.isList;obtain⟨s1,s2,⟨o1,o2,s3⟩,s4,s5⟩:=st;have lt:∀{c o},s.heap.get? c=some o->c<s.heap.objs.size:=fun q=>KC q;have l1:=lt s1;have l2:=lt s2;have l3:=lt s3;have l4:i1<s.heap.objs.size:=by obtain⟨_,q,_⟩:=s4;exact lt q
  have l5:i2<s.heap.objs.size:=by obtain⟨_,q,_⟩:=s5;exact lt q
  refine wpAny_pyNext_zip_item D s1 s2 s3 s4 s5 p.isList p'.isList (x:=u) (y:=u') (by simpa using hu) (by simpa using hu') fun h1 a1 a2 a3 a4 a5 a6 hk=>?_;refine⟨_,rfl,wpAny_letOwnedTupleGo_zip a1 fun h2 z2 hs2=>?_⟩;have ht2:h2.get? s.heap.objs.size=some { cls:=.type "tuple",data:=.seq #[u,u'] }:=(hs2.2 _ (LM l1)).trans a5;have k2:∀c o,c∉[z,TI,TO,i1,i2]->s.heap.get? c=some o->h2.get? c=some o:=fun c o hc q=>by simp only[KD,Ml,or_false,not_or]at hc;exact(hs2.2 c hc.1).trans (hk c o hc.1 hc.2.2.1 hc.2.2.2.1 hc.2.2.2.2 q)
  have hn:H s.heap.objs.size=none:=I.hok.fresh (Nat.le_refl _);have I2:Inv X jn σ (upd H s.heap.objs.size (.tup [x,y])) { s with heap:=h2,toks:=s.toks }:=
   l6 I hf k2 (Nat.le_refl _) ⟨by simp[sizeLine],[u,u'],.cons ru (.cons ru' .nil),_,ht2,rfl,_,rfl⟩
  refine⟨.ref s.heap.objs.size,_,I2,rfl,⟨_,x,y,hn,rfl,rfl,fun vs hv=>by rw[I.eU hv hq];exact hx,fun vs hv=>by rw[I.eU hv hq'];exact hy⟩,⟨z2,?_,⟨_,_,hs2.extBut _ _ D.TOz a2⟩,?_,?_⟩,fun c hc=>?_⟩
  ·exact hs2.extBut _ _ D.TIz (hk TI _ D.TIz D.TITO D.TIi1 D.TIi2 s2)
  ·exact a3.extBut hs2.extBut D.i1z
  ·exact a4.extBut hs2.extBut D.i2z
  ·have hc1:c≠s.heap.objs.size:=fun q=>by
    simp only[KD,Ml,or_false]at hc;rcases hc with r | r | r | r | r
    ·subst r;rw[q]at l1;exact Ls _ l1
    ·subst r;rw[q]at l2;exact Ls _ l2
    ·subst r;rw[q]at l3;exact Ls _ l3
    ·subst r;rw[q]at l4;exact Ls _ l4
    ·subst r;rw[q]at l5;exact Ls _ l5
   rw[af hc1];exact(hf c hc).1
 done:=by
  intro X hP hw hK hc i jn s σ H E I hf st hg;subst hP hw hK;obtain⟨xs,ys,hq,hq',hx⟩:=hg;obtain⟨its,rv,p,hz⟩:=I.list hq;obtain⟨its',rv',p',hz'⟩:=I.list hq';have hl:=rv.length;have hl':=rv'.length;have D:=pL F st p.isList p'.isList;obtain⟨s1,s2,⟨o1,o2,s3⟩,s4,s5⟩:=st;refine wpAny_pyNext_zip_end (I.ok.hd hc) D s1 s2 s3 s4 s5 p.isList p'.isList ?_ fun h' hk=>⟨rfl,gx (t':=s.toks) I hf fun c o hc q=>?_⟩
  ·rcases hx with hx | hx
   ·exact .inl (by simp;lia)
   ·exact .inr (by simp;lia)
  ·simp only[KD,Ml,or_false,not_or]at hc;exact hk c o hc.1 hc.2.2.1 hc.2.2.2.1 hc.2.2.2.2 q
 self:=fun A i s Q E st h=>wpAny_pyIter_zip st.1 h
def B4(K:gb)(ta:TA):TI:=fun σ H R=>ta σ H fun vs H1=>∃a b,vs=[.ref a,.ref b]/\(∃xs,SqL K H1 a xs)/\(∃ys,SqL K H1 b ys)/\R (Itz K a b) H1
section
variable{X:Cx}{l l':Expr}{ta:TA}{p pos:Pos}{elts:List Expr}{x1:Nat}{tp:Pos}
theorem ED(hg:Gl X "zip")(hm:X.mg "zip" = none)(ha:PA X [l,l'] ta)(hs:starEach [l,l'] X.env=(false,eval l X.env)::starEach [l'] X.env:=by rfl)(hs2:(backTo pos (starEach [l'] X.env)).any (·.1)=false:=by rfl) :
  PI X (.Tuple elts x1 tp) (.Call (.Name "zip" p) [l,l'] [] pos) (B4 X.K ta):=by
 intro jn s σ H R I h;refine Call_ (cD I hg hm boot_zip (K6 (thn (ha pos jn s σ H _ I h) fun us s1 ⟨vs,H1,I1,r1,q1⟩=>?_) hs hs2));obtain⟨a,b,e,⟨xs,hq⟩,⟨ys,hq'⟩,q⟩:=q1;subst e;obtain⟨v1,v2,rfl,r,r'⟩:=vals2 r1;cases r;cases r';obtain⟨its,rv,pl,hz⟩:=I1.list hq;obtain⟨its',rv',pl',hz'⟩:=I1.list hq';refine call_zip_2 pl.isList pl'.isList fun h' e1 e2 e3 e4 e5 hsz k=>?_;have I2:Inv X jn σ H1 { s1 with heap:=h' }:=I1.kept (t':=s1.toks) k;have F:nM (s1.heap.objs.size+4) (s1.heap.objs.size+2) (s1.heap.objs.size+3) s1.heap.objs.size (s1.heap.objs.size+1):=by constructor<;>first | exact KP (by lia) | exact LM (by lia)
 have T:=wR (P:=X.prog) (w:=X.w) (K:=X.K) (elts:=elts) (x1:=x1) (tp:=tp) a b _ _ _ _ _ F;have st:wQ a b (s1.heap.objs.size+4) (s1.heap.objs.size+2) (s1.heap.objs.size+3) s1.heap.objs.size (s1.heap.objs.size+1) 0 h':=⟨e1,e2,⟨_,_,e3⟩,e4,e5⟩
 refine T.self X.A 0 { s1 with heap:=h' } _ X.xe st ?_;refine⟨s1.heap.objs.size+4,_,_,_,H1,rfl,I2,T,st,fun c hc=>?_,q⟩;have:s1.heap.objs.size<=c:=by simp only[KD,Ml,or_false]at hc;rcases hc with r | r | r | r | r<;>(rw[r];first | exact Nat.le_add_right _ _ | exact Nat.le_refl _)
 exact I1.oW this (I1.hok.fresh this)
end
theorem sP:∀(xs ys:List Dat),(Dm.fW xs ys).length=min xs.length ys.length
 |[],_=>by simp[Dm.fW]
 |_::_,[]=>by simp[Dm.fW]
 |x::xs,y::ys=>by simp[Dm.fW,sP xs ys]
theorem zip_get:∀(xs ys:List Dat) (j:Nat) (d:Dat),(Dm.fW xs ys)[j]?=some d->∃x y,xs[j]?=some x/\ys[j]?=some y/\d=.tup [x,y]
 |[],_,_,_,h=>by simp[Dm.fW]at h
 |_::_,[],_,_,h=>by simp[Dm.fW]at h
 |x::xs,y::ys,0,d,h=>by cases h;exact⟨x,y,rfl,rfl,rfl⟩
 |x::xs,y::ys,j+1,d,h=>zip_get xs ys j d h
theorem EE{K:gb}{H0:Hp}{a b:Addr}{xs ys:List V}{ds es:List Dat}(hq:Rd H0 a (.lst xs))(rs:av H0 xs ds)(hq':Rd H0 b (.lst ys))(rs':av H0 ys es):JW (Itz K a b) H0 (Dm.fW ds es):=by
 intro H0' H s0 s1;have q:SqL K H a xs:=.inl (ah.rd s1 (ah.rd s0 hq));have q':SqL K H b ys:=.inl (ah.rd s1 (ah.rd s0 hq'));refine⟨fun i hi=>⟨xs,ys,q,q',?_⟩,fun i d e=>?_⟩
 ·rw[sP]at hi;have:=rs.length;have:=rs'.length
  lia
 obtain⟨x,y,hx,hy,rfl⟩:=zip_get ds es i d e;obtain⟨v,hv,rv⟩:=rs.get hx;obtain⟨v',hv',rv'⟩:=rs'.get hy;refine⟨⟨xs,ys,v,v',q,q',hv,hv'⟩,fun r H' z=>?_⟩;obtain⟨p,u,u',hn,rfl,rfl,z1,z2⟩:=z;have w1:=z1 xs q;have w2:=z2 ys q';rw[hv]at w1;rw[hv']at w2;cases w1;cases w2;have g:=aJ.zA (o:=HO.tup [v,v']) s1 hn;exact⟨_,g,.tup aq (.cons ((rv.mono s0).mono g.s0) (.cons ((rv'.mono s0).mono g.s0) .nil))⟩
section
variable{σ:L2.St}{H:Hp}{R:It->Hp->Prop}
theorem EF{K:gb}{f g:FE}(h:tDI (Dm.z5 f g) σ H R):B4 K (tDA [f,g]) σ H R:=by
 obtain⟨H0,ρ,ys,ρ',st,e,k⟩:=h;unfold Dm.z5 at e;split at e
 ·rename_i vs ρ1 e1;split at e
  ·rename_i xs zs ρ2 e2;cases e;refine⟨H0,ρ,vs,ρ1,st,e1,fun us H0' H' t r=>?_⟩;obtain⟨H1,t1,b1,r1⟩:=takes t (ah.refl _) r e2;cases r1 with
   |cons q1 rr=>
    cases rr with
    |cons q2 rr=>
     cases rr;cases q1 with
     |lst q rs=>
      cases q2 with
      |lst q' rs'=>exact⟨_,_,rfl,⟨_,.inl (ah.rd t1.st.same q)⟩,⟨_,.inl (ah.rd t1.st.same q')⟩,k _ H1 H' t1 (EE q rs q' rs')⟩
  ·cases e
 ·cases e
end
section
variable{X:Cx}{a b:Expr}{fa fb:FE}{p pos:Pos}{elts:List Expr}{x1:Nat}{tp:Pos}
theorem HC(hg:Gl X "zip")(hm:X.mg "zip" = none)(ha:DA X [a,b] [fa,fb])(hs:starEach [a,b] X.env=(false,eval a X.env)::starEach [b] X.env:=by rfl)(hs2:(backTo pos (starEach [b] X.env)).any (·.1)=false:=by rfl) :
  DI X (.Tuple elts x1 tp) (.Call (.Name "zip" p) [a,b] [] pos) (Dm.z5 fa fb):=PI.weak (ED hg hm ha hs hs2) fun _ _ _=>EF
end
end Br
namespace Dm
noncomputable def fnM(n m:Nat)(body:FS)(ds:List Dat):Option (RV×Dat):=if ds.length=n then (match ds with
 | d::r=>(match body (Cell.ow d::(r.map Cell.sh++Dk m .un)) with
  | some (.ret z ρ')=>(match ρ'[0]? with
   |some (Cell.ow d')=>some (z,d')
   |_=>none)
  | some (.nx ρ')=>(match ρ'[0]? with
   |some (Cell.ow d')=>some (.val .non,d')
   |_=>none)
  |_=>none)
 |[]=>none) else none
noncomputable def flat:Dat->Bool
 |.tup xs=>xs.all fun x=>!cQ x
 |d=>!cQ d
noncomputable def nN:Dat->Bool
 |.lst xs=>xs.all fun x=>!cQ x
 |_=>false
noncomputable def eFm(f:List Dat->Option (RV×Dat))(j:Nat)(as:List FE):FE:=fun ρ=>match ρ[j]? with
 | some (.ow _)=>(match eAs as ρ with
  |none=>none
  | some (xs,ρ1)=>(match ρ1[j]? with
   | some (.ow d1)=>(match tks ρ1 xs with
    |none=>none
    | some (ds,ρ2)=>(match ρ2[j]? with
     | some (.ow d)=>(match f (d::ds) with
      |none=>none
      |some (v,d')=>if flat v.dat&&nN d' then some (v.bF,ρ1.set j (.ow d')) else some (v.bF,ρ2.set j (.ow d')))
     |_=>none))
   |_=>none))
 |_=>none
end Dm
namespace Br
open PySem PySem.Spec PyProof.Rows L2
section
variable{ρ:Dm.Env}{σ:L2.St}{a:Addr}
def spM(f:List Dat->Option (RV×Dat)):Sp:=fun vs H Q _=>∃H0 a us d ds z d',vs=V.ref a::us/\ah H0 H/\H0 a=none/\Own H0 H a d/\av H0 us ds/\f (d::ds)=some (z,d') /\
 ∀v H0' H',Stp (fun b=>b=a) H0 H H0' H'->ah H0' H'->H0' a=none->Own H0' H' a d'->pB H H0' H' v z->Q v H'
theorem dZ{n m:Nat}{body:FS}{vs:List V}{H:Hp}{Q:VK}{E:XK}(h:spM (Dm.fnM n m body) vs H Q E):vs.length=n:=by
 obtain⟨H0,a,us,d,ds,z,d',e,_,_,_,rs,ef,_⟩:=h;unfold Dm.fnM at ef;split at ef
 ·rename_i hl;rw[e,Li,rs.length]
  simpa using hl
 ·cases ef
theorem ak.l7{H0 H:Hp}{j:Nat}{d:Dat}(st:ak H0 H σ ρ)(q:σ[j]?=some (some (V.ref a)))(no:¬ai σ ρ a)(n0:H0 a=none)(w:Own H0 H a d):ak H0 H σ (ρ.set j (.ow d)):=by
 have:=st.v5 (i:=j) no n0 w;have e:σ.set j (some (V.ref a))=σ:=by
  apply Nx;intro i;by_cases h:j=i
  ·subst h;have hl:j<σ.length:=(pe.mp q).1;rw[KW hl,q]
  ·rw[gc h]
 rw[e]at this;exact this
theorem ak.off{H0 H H0' H':Hp}(st:ak H0 H σ ρ)(s0:ah H0 H0')(ss:ah H0' H')(no:¬ai σ ρ a)(s1:∀b o,H b=some o->b≠a->H' b=some o)(s2:∀(i:Nat) (d:Dat) (b:Addr),ρ[i]?=some (Dm.Cell.ow d)->σ[i]?=some (some (V.ref b))->H0' b=none):ak H0' H' σ ρ where
 same:=ss
 len:=st.len
 sh:=fun i d e=>by obtain⟨v,q,r⟩:=st.sh i d e;exact⟨v,q,r.mono s0⟩
 ow:=fun i d e=>by obtain⟨b,q,n,w⟩:=st.ow i d e;obtain⟨o,z⟩:=w.some;have nb:b≠a:=fun y=>no ⟨i,d,e,y▸q⟩;exact⟨b,q,s2 i d b e q,w.mono s0 ((s1 b o z nb).trans z.symm)⟩
 dis:=st.dis
theorem d7{H0 H1:Hp}:∀{xs:List V} {ds:List Dat},av H0 xs ds->(ds.all fun x=>!Dm.cQ x)=true->av H1 xs ds
 |_,_,.nil,_=>.nil
 |_,_,.cons r rs,h=>by rw[MY,K5]at h;exact .cons (Rep.plain r (by simpa using h.1)) (d7 rs h.2)
end
section
variable{σ:L2.St}{H:Hp}{Q:VK}
theorem sQ{f:List Dat->Option (RV×Dat)}{j:Nat}{fs:List FE}{E:XK}(h:tD (Dm.eFm f j fs) σ H Q):fZ (spM f) [] E (tDA (Dm.eV j::fs)) σ H Q:=by
 obtain⟨H0,ρ,x,ρ',st,e,k⟩:=h;unfold Dm.eFm at e;split at e
 case h_2=>cases e
 rename_i d0 h0;split at e
 ·cases e
 rename_i xs ρ1 e1;split at e
 case h_2=>cases e
 rename_i d1 h1;split at e
 ·cases e
 rename_i ds ρ2 e2;split at e
 case h_2=>cases e
 rename_i d h2;split at e
 ·cases e
 rename_i z d' fz;have ea:Dm.eAs (Dm.eV j::fs) ρ=some (.slot j::xs,ρ1):=by unfold Dm.eAs;rw[show Dm.eV j ρ=some (.slot j,ρ) from by unfold Dm.eV;rw[h0]];dsimp only;rw[e1]
 refine⟨H0,ρ,.slot j::xs,ρ1,st,ea,fun vs H1 Hb t1 r1=>?_⟩;dsimp only;rw[K4];cases r1 with
 |cons r0 rr=>
  obtain⟨H2,t2,b2,r2⟩:=takes t1 (ah.refl _) rr e2;obtain⟨a,qa,na,wa⟩:=t2.st.ow j d h2;obtain⟨q0,_⟩:=r0;rw[qa]at q0;cases q0;obtain⟨a1,qa1,na1,wa1⟩:=t1.st.ow j d1 h1;rw[qa]at qa1;cases qa1;obtain⟨oa,ha⟩:=wa.some;have hl2:j<ρ2.length:=(pe.mp h2).1;have hl1:j<ρ1.length:=(pe.mp h1).1;have oa0:ai σ ρ a:=t1.own a ⟨j,d1,h1,qa⟩;refine⟨H2,a,_,d,ds,z,d',rfl,t2.st.same,na,wa,r2,fz,fun v H3 Hd s3 ss n3 w3 r3=>?_⟩;have no2:¬ai σ (ρ2.set j .un) a:=fun y=>by obtain⟨i,d4,hi,y1,y2⟩:=bH y;exact hi (t2.st.dis i j d4 d a y1 h2 y2 qa)
  have no1:¬ai σ (ρ1.set j .un) a:=fun y=>by obtain⟨i,d4,hi,y1,y2⟩:=bH y;exact hi (t1.st.dis i j d4 d1 a y1 h1 y2 qa)
  split at e
  ·rename_i fl;cases e;rw[K5]at fl;obtain⟨f1,f2⟩:=fl;have wp:∀H',Own H' Hd a d':=fun H'=>by
    cases d' with
    |lst ys=>obtain⟨us,y1,y2⟩:=w3;exact⟨us,y1,d7 y2 f2⟩
    |_=>cases f2
   have Cq:∀H1':Hp,ah H1 H1'->ah H1' Hd->(∀b o,H1' b=some o->H1 b=some o\/((∃us,o=.tup us)/\H3 b=some o))->eO H H1' Hd σ (ρ1.set j (.ow d')) v z.bF->Q v Hd:=fun H1' m1 m2 m3 rv=>by
    have hd3:∀b,H1' b≠none->b≠a:=fun b hb y=>by
     subst y;cases y2:H1' b with
     |none=>exact hb y2
     |some o=>
      rcases m3 b o y2 with y3 | ⟨_,y3⟩
      ·rw[na1]at y3;cases y3
      ·rw[n3]at y3;cases y3
    have n1':H1' a=none:=by
     cases y:H1' a with
     |none=>rfl
     |some o=>exact absurd rfl (hd3 a (by rw[y];exact fun q=>nomatch q))
    have sm:ak H1' Hd σ (ρ1.set j .un):=by
     refine(t1.st.mask j).off m1 m2 no1 (fun b o y nb=>s3.s1 b o y nb) fun i d4 b y1 y2=>?_;obtain⟨b',q',nb',w'⟩:=(t1.st.mask j).ow i d4 y1;rw[y2]at q';cases q';cases y:H1' b with
     |none=>rfl
     |some o=>
      rcases m3 b o y with y3 | ⟨⟨us,y4⟩,y3⟩
      ·rw[nb']at y3;cases y3
      ·subst y4;have nb:b≠a:=hd3 b (by rw[y];exact fun q=>nomatch q);cases d4 with
       |lst _=>obtain⟨ws,z1,_⟩:=w';have z2:=s3.s1 b _ z1 nb;rw[ss _ _ y3]at z2;cases z2
       |dct _ _=>obtain⟨ws,z1,_⟩:=w';have z2:=s3.s1 b _ z1 nb;rw[ss _ _ y3]at z2;cases z2
       |dcp _ _=>obtain⟨ws,z1,_⟩:=w';have z2:=s3.s1 b _ z1 nb;rw[ss _ _ y3]at z2;cases z2
       |_=>exact K9 w'
    have sf:ak H1' Hd σ (ρ1.set j (.ow d')):=by have:=sm.l7 qa no1 n1' (wp H1');rw[M8]at this;exact this
    refine k v H1' Hd ⟨sf,⟨t1.stp.s0.trans m1,fun b o y nb=>?_,fun b o y=>?_,fun b o y=>?_⟩,fun b y=>?_,fun i y=>?_⟩ rv
    ·have y1:=t1.stp.s1 b o y nb;exact s3.s1 b o y1 fun q=>nb (by rw[q];exact oa0)
    ·rcases m3 b o y with y3 | ⟨_,y3⟩
     ·exact t1.stp.s2 b o y3
     ·rcases s3.s2 b o y3 with y4 | y4 | y4
      ·exact .inl (t1.stp.gone y4)
      ·exact t2.stp.s2 b o y4
      ·subst y4;rw[n3]at y3;cases y3
    ·obtain⟨o',y1⟩:=t1.stp.s3 b o y;exact s3.s3 b o' y1
    ·obtain⟨i,d4,y1,y2⟩:=y;by_cases hi:j=i
     ·subst hi;rw[qa]at y2;cases y2;exact oa0
     ·rw[gc hi]at y1;exact t1.own b ⟨i,d4,y1,y2⟩
    ·trivial
   have m0:ah H1 Hd:=fun b o y=>s3.s1 b o (t1.st.same _ _ y) fun q=>by rw[q,na1]at y;cases y
   cases z with
   |new d4=>
    obtain⟨_,_,_,_,w⟩:=r3;cases d4 with
    |lst _=>cases f1
    |dct _ _=>cases f1
    |dcp _ _=>cases f1
    |_=>exact K9 w
   |val d4=>
    have r3':Rep H3 v d4:=r3;cases d4 with
    |tup es=>
     cases r3' with
     |tup q rs=>
      rename_i a2 us;have rp:av H1 us es:=d7 rs f1;refine Cq (upd H1 a2 (.tup us)) (fun b o y=>?_) (fun b o y=>?_) (fun b o y=>?_) (.tup aq (d7 rs f1))
      ·by_cases hb:b=a2
       ·subst hb;have:=s3.s0 _ _ (b2 _ _ y);rw[q]at this;rw[aq,this]
       ·rw[af hb];exact y
      ·by_cases hb:b=a2
       ·subst hb;rw[aq]at y;cases y;exact ss _ _ q
       ·rw[af hb]at y;exact m0 _ _ y
      ·by_cases hb:b=a2
       ·subst hb;rw[aq]at y;cases y;exact .inr ⟨⟨us,rfl⟩,q⟩
       ·rw[af hb]at y;exact .inl y
    |lst _=>cases f1
    |dct _ _=>cases f1
    |dcp _ _=>cases f1
    |exc _=>cases f1
    |eW _ _=>cases f1
    |fn _=>exact Cq H1 (ah.refl _) m0 (fun b o y=>.inl y) (Rep.plain r3' rfl)
    |non=>exact Cq H1 (ah.refl _) m0 (fun b o y=>.inl y) (Rep.plain r3' rfl)
    |bl _=>exact Cq H1 (ah.refl _) m0 (fun b o y=>.inl y) (Rep.plain r3' rfl)
    |int _=>exact Cq H1 (ah.refl _) m0 (fun b o y=>.inl y) (Rep.plain r3' rfl)
    |str _=>exact Cq H1 (ah.refl _) m0 (fun b o y=>.inl y) (Rep.plain r3' rfl)
  ·cases e;have sm:ak H3 Hd σ (ρ2.set j .un):=by
    refine(t2.st.mask j).off s3.s0 ss no2 (fun b o y nb=>s3.s1 b o y nb) fun i d4 b y1 y2=>?_;obtain⟨b',q',nb',w'⟩:=(t2.st.mask j).ow i d4 y1;rw[y2]at q';cases q';obtain⟨ob,hob⟩:=w'.some;cases y:H3 b with
    |none=>rfl
    |some o=>
     rcases s3.s2 b o y with y3 | y3 | y3
     ·rw[hob]at y3;cases y3
     ·rw[nb']at y3;cases y3
     ·exact absurd ⟨i,d4,y1,y3▸y2⟩ no2
   have sf:ak H3 Hd σ (ρ2.set j (.ow d')):=by have:=sm.l7 qa no2 n3 w3;rw[M8]at this;exact this
   have of:∀b,ai σ (ρ2.set j (.ow d')) b->b=a\/ai σ ρ2 b:=fun b ⟨i,d4,y1,y2⟩=>by
    by_cases hi:j=i
    ·subst hi;rw[qa]at y2;cases y2;exact .inl rfl
    ·rw[gc hi]at y1;exact .inr ⟨i,d4,y1,y2⟩
   refine k v H3 Hd ⟨sf,t2.stp.trans s3 (fun b y=>.inl (y▸oa0)),fun b y=>?_,fun i y=>?_⟩ ?_
   ·rcases of b y with y | y
    ·exact y▸oa0
    ·exact t2.own b y
   ·trivial
   ·cases z with
    |val d4=>exact r3
    |new d4=>
     obtain⟨b,y0,y1,y2,y3⟩:=r3;refine⟨b,y0,t2.stp.gone y1,fun y=>?_,y2,y3⟩;rcases of b y with y | y
     ·subst y;rw[ha]at y1;cases y1
     ·exact t2.st.dO y1 y
end
theorem aT{X:Cx}{es:List Expr}{p pos px:Pos}{k:Nat}{F:Addr}{fd:FuncData}{ps:List Str}{g:List Dat->Option (RV×Dat)}{x y:Str}{j:Nat}{fs:List FE}(G:aO X.prog X.w X.K X.mg X.base CX0 k F fd ps (spM g))(hr:aV k X.A)(hg:Gl X x)(hm:X.mg x=some (.ref F))(hk:Le X.K (.ref F)=true)(hb:Binds X.K fd ps [])
  (ha:DA X (.Name y px::es) (Dm.eV j::fs)) (FF:(x == ("__debug__" : Str))=false:=by decide) (he:starEach (.Name y px::es) X.env=(false,eval (.Name y px) X.env)::starEach es X.env:=by rfl) (A3:(backTo pos (starEach es X.env)).any (·.1)=false:=by rfl) :
  DE X (.Call (.Name x p) (.Name y px::es) [] pos) (Dm.eFm g j fs):=PE.weak (dh G hr hg hm hk hb .nil (gT (X:=X)) ha FF he A3) fun _ _ _=>sQ
theorem l8{N:List Str}{n m:Nat}{body:FS}{vs:List V}{H:Hp}{Q:VK}{E:XK}(hm:N.length=n+m)(h:spM (Dm.fnM n m body) vs H Q E) :
  tDS body { nx:=fun _ H'=>Q .non H',rt:=Q } (start N vs) H:=by
 have hvn:=dZ h;obtain⟨H0,a,us,d,ds,z,d',e,s,na,wa,rs,ef,k⟩:=h;subst e;have hl:=rs.length;rw[Li]at hvn;have e0:(start N (V.ref a::us))[0]?=some (some (V.ref a)):=rfl;have get:∀{i:Nat} {c:Dm.Cell},(Dm.Cell.ow d::(ds.map Dm.Cell.sh++Dk m .un))[i]?=some c->(i=0/\c=.ow d)\/(∃i' d4,i=i'+1/\ds[i']?=some d4/\c=.sh d4)\/c=.un:=fun {i c} y=>by
  cases i with
  |zero=>cases y;exact .inl ⟨rfl,rfl⟩
  |succ i=>
   rw[MO]at y;by_cases hi:i<ds.length
   ·rw[KH (by simpa using hi),KZ,KG hi]at y;cases y;exact .inr (.inl ⟨i,ds[i],rfl,KG hi,rfl⟩)
   ·rw[KI (by simpa using hi),Lm]at y;split at y
    ·cases y;exact .inr (.inr rfl)
    ·cases y
 have ow0:∀{i:Nat} {d4:Dat},(Dm.Cell.ow d::(ds.map Dm.Cell.sh++Dk m .un))[i]?=some (.ow d4)->i=0/\d4=d:=fun {i d4} y=>by
  rcases get y with⟨y1,y2⟩ | ⟨_,_,_,_,y2⟩ | y2
  ·cases y2;exact⟨y1,rfl⟩
  ·cases y2
  ·cases y2
 have oa:∀b,ai (start N (V.ref a::us)) (Dm.Cell.ow d::(ds.map Dm.Cell.sh++Dk m .un)) b->b=a:=fun b ⟨i,d4,y1,y2⟩=>by obtain⟨y3,_⟩:=ow0 y1;subst y3;rw[e0]at y2;cases y2;rfl
 have st:ak H0 H (start N (V.ref a::us)) (Dm.Cell.ow d::(ds.map Dm.Cell.sh++Dk m .un)):=by
  refine⟨s,?_,fun i d4 y=>?_,fun i d4 y=>?_,fun i i' d4 d5 b y1 y2 _ _=>(ow0 y1).1.trans (ow0 y2).1.symm⟩
  ·unfold L2.start;simp only[KL,gp,Mc,Li];omega
  ·rcases get y with⟨_,y2⟩ | ⟨i',d5,y1,y2,y3⟩ | y2
   ·cases y2
   ·cases y3;subst y1;obtain⟨v,hv,r⟩:=rs.get y2;refine⟨v,?_,r⟩;have hi:i'<us.length:=(pe.mp hv).1;unfold L2.start;rw[KH (by simp;omega),KZ,MO,hv];rfl
   ·cases y2
  ·obtain⟨y1,y2⟩:=ow0 y;subst y1 y2;exact⟨a,e0,na,wa⟩
 have Cq:∀{σ':L2.St} {ρ':Dm.Env} {H0' H':Hp},SSt (start N (V.ref a::us)) (Dm.Cell.ow d::(ds.map Dm.Cell.sh++Dk m .un)) H0 H σ' ρ' H0' H'->ρ'[0]?=some (.ow d')->Stp (fun b=>b=a) H0 H H0' H'/\H0' a=none/\Own H0' H' a d'/\ai σ' ρ' a:=fun {σ' ρ' H0' H'} t y=>by obtain⟨a',q',n',w'⟩:=t.st.ow 0 d' y;have fx:=t.fx;rw[e0,q']at fx;cases fx;exact⟨t.stp.wide fun b z=>oa b z,n',w',0,d',y,q'⟩
 unfold Dm.fnM at ef;split at ef
 case isFalse=>cases ef
 dsimp only at ef;split at ef
 ·rename_i z' ρ' e1;split at ef
  case h_2=>cases ef
  rename_i d4 y;cases ef;refine⟨H0,_,_,st,e1,fun σ' v H0' H' t r no=>?_⟩;obtain⟨f1,f2,f3,f4⟩:=Cq t y;refine k v H0' H' f1 t.st.same f2 f3 ?_;cases z with
  |val d5=>exact r
  |new d5=>
   obtain⟨b,y0,y1,y2,y3⟩:=r;refine⟨b,y0,?_,y2,y3⟩;rcases y1 with y1 | y1
   ·exact y1
   ·exact absurd f4 (oa b y1▸no d5 b rfl y0)
 ·rename_i ρ' e1;split at ef
  case h_2=>cases ef
  rename_i d4 y;cases ef;refine⟨H0,_,_,st,e1,fun σ' H0' H' t=>?_⟩;obtain⟨f1,f2,f3,f4⟩:=Cq t y;exact k _ H0' H' f1 t.st.same f2 f3 .non
 ·cases ef
end Br
namespace Dm
noncomputable def cN:List Dat->Option (List Int)
 |[]=>some []
 |.int i::r=>(cN r).map fun ns=>i::ns
 |_=>none
end Dm
namespace Br
open PySem PySem.Spec PyProof.Rows L2
theorem intsAre_of:∀{ns:List Int} {its:List Value},Vals (ns.map V.int) its->IntsAre its ns
 |[],_,r=>by cases r;exact .nil
 |n::ns,_,r=>by
  rw[KA]at r;cases r with
  |cons h t=>obtain⟨tk,rfl⟩:=h;exact .cons _ _ (intsAre_of t)
theorem kc{H0:Hp}:∀{ds:List Dat} {xs:List V} {ns:List Int},av H0 xs ds->Dm.cN ds=some ns->xs=ns.map V.int
 |[],_,ns,r,e=>by cases r;cases e;rfl
 |d::ds,_,ns,r,e=>by
  cases r with
  |cons h t=>
   cases d with
   |int i=>
    unfold Dm.cN at e;cases q:Dm.cN ds with
    |none=>rw[q]at e;cases e
    |some ms=>rw[q]at e;cases e;cases Rep.isInt h;rw[kc t q];rfl
   |_=>cases e
end Br
namespace Ts
open PySem PyProof.Rows
variable{M:Model}{A:Around}{E:Value->Shared->Prop}{s:Shared}{κ:KeyKind}{kd:SortKind}{a₀:Array Keyed}
def cW(M:Model)(A:Around)(E:Value->Shared->Prop)(s:Shared)(κ:KeyKind)(kd:SortKind):Prop:=
 ∀(x y:Keyed) (a b:κ.α) (st:SortSt) (Q:Option Bool->SortSt->Prop),κ.keyOf x.1=some a->κ.keyOf y.1=some b->kindOf st=kd->Q (some (κ.blt a b)) st->wpS M A E s (lt' x y) Q st
structure SB(kd:SortKind)(a₀:Array Keyed)(st:SortSt):Prop where
 perm:(arrOf st).Perm a₀
 kind:kindOf st=kd
 failed:failedOf st=none
theorem SB.size{st:SortSt}(h:SB kd a₀ st):(arrOf st).size=a₀.size:=h.perm.size_eq
theorem SB.arr{st:SortSt}(h:SB kd a₀ st){xs:Array Keyed}(hp:xs.Perm (arrOf st)):SB kd a₀ (setArr st xs):=⟨hp.trans h.perm,h.kind,h.failed⟩
theorem SB.pend{st:SortSt}(h:SB kd a₀ st)(p:Array (Nat×Nat×Nat)):SB kd a₀ (setPending st p):=⟨h.perm,h.kind,h.failed⟩
theorem SB.keys{st:SortSt}(h:SB kd a₀ st)(h0:KeysOf κ a₀):KeysOf κ (arrOf st):=fun p hp=>h0 p ((LV.mp h.perm).mem_iff.mp hp)
theorem nQ{xs:Array Keyed}(h:KeysOf κ xs){i:Nat}(hi:i<xs.size):∃p,xs[i]?=some p/\κ.keyOf p.1=some (KK κ xs i):=by refine⟨xs[i],getElem?_pos xs i hi,?_⟩;obtain⟨a,e⟩:=h xs[i] (by simp);unfold KK;rw[getElem?_pos xs i hi];dsimp only;rw[e];rfl
theorem l9(hL:cW M A E s κ kd){st:SortSt}(hB:SB kd a₀ st)(h0:KeysOf κ a₀){i j:Nat}(hi:i<a₀.size)(hj:j<a₀.size){Q:Option Bool->SortSt->Prop}
  (h:Q (some (κ.blt (KK κ (arrOf st) i) (KK κ (arrOf st) j))) st):wpS M A E s (ltAt' i j) Q st:=by
 obtain⟨p,ep,kp⟩:=nQ (hB.keys h0) (i:=i) (by rw[hB.size];exact hi);obtain⟨q,eq,kq⟩:=nQ (hB.keys h0) (i:=j) (by rw[hB.size];exact hj);rw[ltAt'_eq];refine wpS_bind (wpS_get ?_);show wpS _ _ _ _ (elem' (arrOf st) i >>= fun x=>elem' (arrOf st) j >>= fun y=>lt' x y) Q st;rw[elem'_eq,elem'_eq,ep,eq];exact wpS_bind (wpS_pure (wpS_bind (wpS_pure (hL p q _ _ st Q kp kq hB.kind h))))
def Seg(κ:KeyKind)(xs:Array Keyed)(i j:Nat):Prop:=∀p q,i<=p->p<=q->q<j->κ.kle (KK κ xs p) (KK κ xs q)
def uK(κ:KeyKind)(xs:Array Keyed)(i j:Nat):Prop:=∀p q,i<=p->p<=q->q<j->κ.kle (KK κ xs q) (KK κ xs p)
def Out(xs ys:Array Keyed)(i j:Nat):Prop:=∀k,(k<i\/j<=k)->ys[k]?=xs[k]?
theorem Out.refl(xs:Array Keyed)(i j:Nat):Out xs xs i j:=fun _ _=>rfl
theorem Out.trans{xs ys zs:Array Keyed}{i j:Nat}(h:Out xs ys i j)(h':Out ys zs i j):Out xs zs i j:=fun k hk=>(h' k hk).trans (h k hk)
theorem Out.mono{xs ys:Array Keyed}{i j i' j':Nat}(h:Out xs ys i j)(h1:i'<=i)(h2:j<=j'):Out xs ys i' j':=fun k hk=>h k (by lia)
theorem Out.seg{xs ys:Array Keyed}{i j p q:Nat}(h:Out xs ys i j)(h':q<=i\/j<=p)(g:Seg κ xs p q):Seg κ ys p q:=fun a b ha Im hb=>by rw[KK_congr (h a (by lia)),KK_congr (h b (by lia))];exact g a b ha Im hb
theorem d8{xs:Array Keyed}{i j:Nat}(hj:j<=xs.size):Out xs (mirror xs i j ((j-i) / 2)) i j:=fun k hk=>by rw[getElem?_mirror_all hj,if_neg (by lia)]
theorem qS{xs:Array Keyed}{src d:Nat}(hs:src<xs.size)(hd:d<=src):Out xs (bubble xs src d) (src-d) (src+1):=fun k hk=>by rw[getElem?_bubble hs d hd,if_neg (by lia),if_neg (by lia)]
theorem EG(hL:cW M A E s κ kd)(h0:KeysOf κ a₀){st:SortSt}(hB:SB kd a₀ st){lo n ok:Nat}(hn:lo+n<=a₀.size)(h1:1<=ok)(hok:ok<=n)(hs:Seg κ (arrOf st) lo (lo+ok)){Q:Bool->SortSt->Prop}
  (h:∀xs,xs.Perm (arrOf st)->Seg κ xs lo (lo+n)->Out (arrOf st) xs lo (lo+n)->Q true (setArr st xs)):wpS M A E s (binarySort' lo n ok) Q st:=by
 rw[binarySort'_eq];refine wpS_bind (wpS_mono (wpS_forRange (I:=fun k c st'=>c=(none,())/\∃xs,st'=setArr st xs/\xs.Perm (arrOf st)/\Seg κ xs lo (lo+k)/\Out (arrOf st) xs lo (lo+n)) (Q:=fun c st'=>c=(none,())/\∃xs,st'=setArr st xs/\xs.Perm (arrOf st)/\Seg κ xs lo (lo+n)/\Out (arrOf st) xs lo (lo+n)) ?step ?Cq ?ini) ?post)
 case ini=>refine⟨rfl,arrOf st,rfl,Array.Perm.refl _,?_,Out.refl _ _ _⟩;rw[show max ok 1=ok by lia];exact hs
 case Cq=>rintro c st' ⟨rfl,xs,rfl,hp,hsg,ho⟩;rw[show max (max ok 1) n=n by lia]at hsg;exact⟨rfl,xs,rfl,hp,hsg,ho⟩
 case post=>rintro c st' ⟨rfl,xs,rfl,hp,hsg,ho⟩;exact wpS_pure (h xs hp hsg ho)
 case step=>
  rintro k c st' hk1 hk2 ⟨rfl,xs,rfl,hp,hsg,ho⟩;dsimp only;have hB':SB kd a₀ (setArr st xs):=hB.arr hp;have hsz:xs.size=a₀.size:=hB'.size;refine wpS_bind (wpS_mono (wpS_forRange (I:=fun i c st'=>∃ l r,c=(none,l,r)∧st'=setArr st xs∧l≤r∧r≤k∧r-l≤k-i∧(∀ p,p<l→κ.kle (KK κ xs (lo+p)) (KK κ xs (lo+k)))∧(∀ p,r≤p→p<k→κ.klt (KK κ xs (lo+k)) (KK κ xs (lo+p))))
   (Q:=fun c st'=>∃l,c=(none,l,l)/\st'=setArr st xs/\l<=k/\(∀p,p<l->κ.kle (KK κ xs (lo+p)) (KK κ xs (lo+k)))/\(∀p,l<=p->p<k->κ.klt (KK κ xs (lo+k)) (KK κ xs (lo+p)))) ?st2 ?fi2 ⟨0,k,rfl,rfl,Lc _,Nat.le_refl _,by lia,fun p hp=>by lia,fun p h1 h2=>by lia⟩) ?po2)
  case fi2=>
   rintro c st' ⟨l,r,rfl,rfl,h1,h2,h3,h4,h5⟩;have:l=r:=by lia
   subst this;exact⟨l,rfl,rfl,h2,h4,h5⟩
  case st2=>
   rintro i c st' _ hi ⟨l,r,rfl,rfl,h1,h2,h3,h4,h5⟩;dsimp only;by_cases hlr:l≥r
   ·rw[if_pos hlr];have:l=r:=by lia
    subst this;exact wpS_pure ⟨l,rfl,rfl,h2,h4,h5⟩
   ·rw[if_neg hlr];refine wpS_bind (l9 hL hB' h0 (by lia) (by lia) ?_);dsimp only;cases hb:κ.blt (KK κ (arrOf (setArr st xs)) (lo+k)) (KK κ (arrOf (setArr st xs)) (lo+(l+r) / 2))
    case true=>rw[if_pos rfl];refine wpS_pure ⟨l,(l+r) / 2,rfl,rfl,by lia,by lia,by lia,h4,fun p hp1 hp2=>?_⟩;exact KeyOrd.klt_of_klt_of_kle hb (hsg _ _ (by lia) (by lia) (by lia))
    case false=>rw[if_neg (by decide)];refine wpS_pure ⟨(l+r) / 2+1,r,rfl,rfl,by lia,h2,by lia,fun p hp1=>?_,h5⟩;exact LN (hsg _ _ (by lia) (by lia) (by lia)) hb
  case po2=>
   rintro c st' ⟨l,rfl,rfl,hlk,hlo,hhi⟩;dsimp only;rw[moveDown'_eq];have hd:lo+k-(lo+l)=k-l:=by lia
   have hsk:lo+k<xs.size:=by lia
   refine wpS_bind (wpS_modify (wpS_pure ⟨rfl,bubble xs (lo+k) (lo+k-(lo+l)),rfl,(bubble_perm _ _ _).trans hp,?_,ho.trans ((qS hsk (by lia)).mono (by lia) (by lia))⟩));intro p q h1 h2 h3;rw[KK_bubble hsk (by lia),KK_bubble hsk (by lia)];rw[show lo+k-(lo+k-(lo+l))=lo+l by lia];by_cases hp1:p=lo+l
   ·rw[if_pos hp1];by_cases hq1:q=lo+l
    ·rw[if_pos hq1];exact LB _
    ·rw[if_neg hq1,if_pos (by lia)];have:=hhi (q-1-lo) (by lia) (by lia);rw[show lo+(q-1-lo)=q-1 by lia]at this;exact Lo this
   ·rw[if_neg hp1];by_cases hp2:lo+l<p/\p<=lo+k
    ·rw[if_pos hp2,if_neg (by lia),if_pos (by lia)];exact hsg _ _ (by lia) (by lia) (by lia)
    ·rw[if_neg hp2];by_cases hq1:q=lo+l
     ·rw[if_pos hq1];have:=hlo (p-lo) (by lia);rw[show lo+(p-lo)=p by lia]at this;exact this
     ·rw[if_neg hq1];by_cases hq2:lo+l<q/\q<=lo+k
      ·rw[if_pos hq2];exact hsg _ _ (by lia) (by lia) (by lia)
      ·rw[if_neg hq2];exact hsg _ _ (by lia) (by lia) (by lia)
end Ts
namespace Ts
open PySem PyProof.Rows
variable{M:Model}{A:Around}{E:Value->Shared->Prop}{s:Shared}{κ:KeyKind}{kd:SortKind}{a₀:Array Keyed}
noncomputable def upL(lo k nrem:Nat):StateT SortSt Sem (Option Nat):=do
 let mut m:=k
 for _ in [k:nrem] do
  let some c <- ltAt' (lo+m) (lo+m-1)
   |return none
  if c then break
  m:=m+1
 return some m
noncomputable def B5(lo k nrem:Nat):StateT SortSt Sem (Option Nat):=do
 rule "list.sort.descending-run"
 let mut m:=k+1
 let mut e:=0
 for _ in [k+1:nrem] do
  let some c <- ltAt' (lo+m) (lo+m-1)
   |return none
  if c then
   if e>0 then reverseSlice' (lo+m-(e+1)) (lo+m)
   e:=0
  else
   let some d <- ltAt' (lo+m-1) (lo+m)
    |return none
   if d then break
   e:=e+1
  m:=m+1
 if e>0 then reverseSlice' (lo+m-(e+1)) (lo+m)
 reverseSlice' lo (lo+m)
 let mut z:=m
 for _ in [m:nrem] do
  let some c <- ltAt' (lo+z) (lo+z-1)
   |return none
  if c then break
  z:=z+1
 return some z
theorem z6{xs:Array Keyed}{i:Nat}:Seg κ xs i (i+1):=fun p q a b c=>by
 have:p=q:=by lia
 subst this;exact LB _
theorem pM{xs:Array Keyed}{i n:Nat}(h:Seg κ xs i (i+n))(h1:1<=n)(hb:κ.kle (KK κ xs (i+n-1)) (KK κ xs (i+n))):Seg κ xs i (i+(n+1)):=fun p q a b c=>by
 by_cases hq:q<i+n
 ·exact h p q a b hq
 ·have:q=i+n:=by lia
  subst this;by_cases hp:p=i+n
  ·subst hp;exact LB _
  ·exact LN (h p (i+n-1) a (by lia) (by lia)) hb
theorem dP{xs:Array Keyed}{i n:Nat}(h:uK κ xs i (i+n))(h1:1<=n)(hb:κ.kle (KK κ xs (i+n)) (KK κ xs (i+n-1))):uK κ xs i (i+(n+1)):=fun p q a b c=>by
 by_cases hq:q<i+n
 ·exact h p q a b hq
 ·have:q=i+n:=by lia
  subst this;by_cases hp:p=i+n
  ·subst hp;exact LB _
  ·exact LN hb (h p (i+n-1) a (by lia) (by lia))
section
variable{prog:Program}{w:World}
theorem HD(hL:cW (model prog w) A E s κ kd)(h0:KeysOf κ a₀){st:SortSt}(hB:SB kd a₀ st){lo k nrem:Nat}(hn:lo+nrem<=a₀.size)(h1:1<=k)(hk:k<=nrem)(hs:Seg κ (arrOf st) lo (lo+k)){Q:Option Nat->SortSt->Prop}
  (h:∀n,k<=n->n<=nrem->Seg κ (arrOf st) lo (lo+n)->Q (some n) st):wpS (model prog w) A E s (upL lo k nrem) Q st:=by
 unfold upL;refine wpS_bind (wpS_mono (wpS_forRange (I:=fun i c st'=>c=(none,i)/\st'=st/\i<=nrem/\Seg κ (arrOf st) lo (lo+i)) (Q:=fun c st'=>∃n,c=(none,n)/\st'=st/\k<=n/\n<=nrem/\Seg κ (arrOf st) lo (lo+n)) ?st1 ?fi1 ⟨rfl,rfl,hk,hs⟩) ?po1)
 case fi1=>rintro c st' ⟨rfl,rfl,hle,hsg⟩;exact⟨_,rfl,rfl,by lia,hle,hsg⟩
 case st1=>
  rintro i c st' hi1 hi2 ⟨rfl,rfl,hle,hsg⟩;dsimp only;refine wpS_bind (l9 hL hB h0 (by lia) (by lia) ?_);dsimp only;cases hb:κ.blt (KK κ (arrOf st') (lo+i)) (KK κ (arrOf st') (lo+i-1))
  case true=>rw[if_pos rfl];exact wpS_pure ⟨i,rfl,rfl,hi1,hle,hsg⟩
  case false=>rw[if_neg (by decide)];exact wpS_pure ⟨rfl,rfl,by lia,pM hsg (by lia) hb⟩
 case po1=>rintro c st' ⟨n,rfl,rfl,h2,h3,h4⟩;exact wpS_pure (h n h2 h3 h4)
theorem nR{xs:Array Keyed}{i j:Nat}(hj:j<=xs.size)(he:∀k,i<=k->k<j->KK κ xs k=KK κ xs (j-1)):∀k,KK κ (mirror xs i j ((j-i) / 2)) k=KK κ xs k:=KK_mirror_equal hj he
theorem sS(hL:cW (model prog w) A E s κ kd)(h0:KeysOf κ a₀){st:SortSt}(hB:SB kd a₀ st){lo k nrem:Nat}(hn:lo+nrem<=a₀.size)(h1:1<=k)(hk:k<nrem)(hs:uK κ (arrOf st) lo (lo+(k+1))){Q:Option Nat->SortSt->Prop}
  (h:∀n xs,1<=n->n<=nrem->xs.Perm (arrOf st)->Seg κ xs lo (lo+n)->Out (arrOf st) xs lo (lo+nrem)->Q (some n) (setArr st xs)):wpS (model prog w) A E s (B5 lo k nrem) Q st:=by
 unfold B5;refine wpS_bind (wpS_lift (wpAny_rule ⟨rfl,?_⟩));refine wpS_bind (wpS_mono (wpS_forRange
  (I:=fun i c st'=>∃e xs,c=(none,i,e)/\st'=setArr st xs/\i<=nrem/\xs.Perm (arrOf st)/\Out (arrOf st) xs lo (lo+nrem)/\uK κ xs lo (lo+i)/\e+1<=i/\∀p,lo+i-(e+1)<=p->p<lo+i->KK κ xs p=KK κ xs (lo+i-1))
  (Q:=fun c st'=>∃e i xs,c=(none,i,e)/\st'=setArr st xs/\k+1<=i/\i<=nrem/\xs.Perm (arrOf st)/\Out (arrOf st) xs lo (lo+nrem)/\uK κ xs lo (lo+i)/\e+1<=i/\∀p,lo+i-(e+1)<=p->p<lo+i->KK κ xs p=KK κ xs (lo+i-1)) ?st1 ?fi1 ?in1) ?po1)
 case in1=>exact⟨0,arrOf st,rfl,rfl,by lia,Array.Perm.refl _,Out.refl _ _ _,hs,by lia,fun p h2 h3=>by rw[show p=lo+(k+1)-1 by lia]⟩
 case fi1=>rintro c st' ⟨e,xs,rfl,rfl,h2,h3,h4,h5,h6,h7⟩;exact⟨e,_,xs,rfl,rfl,by lia,h2,h3,h4,h5,h6,h7⟩
 case st1=>
  rintro i c st' hi1 hi2 ⟨e,xs,rfl,rfl,h2,h3,h4,h5,h6,h7⟩;have hB':SB kd a₀ (setArr st xs):=hB.arr h3;have hsz:xs.size=a₀.size:=hB'.size;dsimp only;refine wpS_bind (l9 hL hB' h0 (by lia) (by lia) ?_);dsimp only;cases hb:κ.blt (KK κ (arrOf (setArr st xs)) (lo+i)) (KK κ (arrOf (setArr st xs)) (lo+i-1))
  case true=>
   rw[if_pos rfl];have hd:κ.kle (KK κ xs (lo+i)) (KK κ xs (lo+i-1)):=Lo hb;by_cases he:e>0
   ·rw[if_pos he,reverseSlice'_eq];have ke:=nR (κ:=κ) (xs:=xs) (i:=lo+i-(e+1)) (j:=lo+i) (by lia) h7;refine wpS_bind (wpS_modify (wpS_pure ⟨0,mirror xs (lo+i-(e+1)) (lo+i) ((lo+i-(lo+i-(e+1))) / 2),rfl,rfl,by lia,(mirror_perm _ _ _ _).trans h3,h4.trans ((d8 (by lia)).mono (by lia) (by lia)),?_,by lia,fun p h8 h9=>by rw[show p=lo+(i+1)-1 by lia]⟩));have:=dP h5 (by lia) hd;exact fun p q a b c=>by rw[ke,ke];exact this p q a b c
   ·rw[if_neg he];exact wpS_pure ⟨0,xs,rfl,rfl,by lia,h3,h4,dP h5 (by lia) hd,by lia,fun p h8 h9=>by rw[show p=lo+(i+1)-1 by lia]⟩
  case false=>
   rw[if_neg (by decide)];refine wpS_bind (l9 hL hB' h0 (by lia) (by lia) ?_);dsimp only;cases hb2:κ.blt (KK κ (arrOf (setArr st xs)) (lo+i-1)) (KK κ (arrOf (setArr st xs)) (lo+i))
   case true=>rw[if_pos rfl];exact wpS_pure ⟨e,i,xs,rfl,rfl,hi1,h2,h3,h4,h5,h6,h7⟩
   case false=>
    rw[if_neg (by decide)];have heq:KK κ xs (lo+i-1)=KK κ xs (lo+i):=κ.total _ _ hb2 hb;refine wpS_pure ⟨e+1,xs,rfl,rfl,by lia,h3,h4,dP h5 (by lia) hb2,by lia,fun p h8 h9=>?_⟩;rw[show lo+(i+1)-1=lo+i by lia];by_cases hp:p=lo+i
    ·rw[hp]
    ·rw[h7 p (by lia) (by lia),heq]
 case po1=>
  rintro c st' ⟨e,i,xs,rfl,rfl,hki,h2,h3,h4,h5,h6,h7⟩;have hB':SB kd a₀ (setArr st xs):=hB.arr h3;have hsz:xs.size=a₀.size:=hB'.size;dsimp only;have last:∀ys,ys.Perm xs->(∀p,KK κ ys p=KK κ xs p)->Out xs ys lo (lo+nrem)->wpS (model prog w) A E s (reverseSlice' lo (lo+i) >>= fun _=>upL lo i nrem) Q (setArr st ys):=fun ys hp hk hO=>by
   rw[reverseSlice'_eq];have Kh:ys.size=a₀.size:=hp.size_eq.trans hsz;refine wpS_bind (wpS_modify ?_);have hB2:SB kd a₀ (setArr st (mirror ys lo (lo+i) ((lo+i-lo) / 2))):=hB.arr ((mirror_perm _ _ _ _).trans (hp.trans h3));refine HD hL h0 hB2 hn (by lia) h2 (fun p q a b c=>?_) fun n h8 h9 h10=>?_
   ·show κ.kle (KK κ (mirror ys lo (lo+i) ((lo+i-lo) / 2)) p) (KK κ (mirror ys lo (lo+i) ((lo+i-lo) / 2)) q);rw[KK_mirror (by lia),KK_mirror (by lia),if_pos (by lia),if_pos (by lia),hk,hk];exact h5 _ _ (by lia) (by lia) (by lia)
   ·exact h n _ (by lia) h9 ((mirror_perm _ _ _ _).trans (hp.trans h3)) h10 ((h4.trans hO).trans ((d8 (by lia)).mono (by lia) (by lia)))
  by_cases he:e>0
  ·rw[if_pos he];refine wpS_bind ?_;rw[reverseSlice'_eq];refine wpS_modify ?_;exact last (mirror xs (lo+i-(e+1)) (lo+i) ((lo+i-(lo+i-(e+1))) / 2)) (mirror_perm _ _ _ _) (nR (xs:=xs) (by lia) h7) ((d8 (xs:=xs) (by lia)).mono (by lia) (by lia))
  ·rw[if_neg he];exact last xs (Array.Perm.refl _) (fun _=>rfl) (Out.refl _ _ _)
theorem EH(hL:cW (model prog w) A E s κ kd)(h0:KeysOf κ a₀){st:SortSt}(hB:SB kd a₀ st){lo nrem:Nat}(hn:lo+nrem<=a₀.size)(h1:1<=nrem){Q:Option Nat->SortSt->Prop}
  (h:∀n xs,1<=n->n<=nrem->xs.Perm (arrOf st)->Seg κ xs lo (lo+n)->Out (arrOf st) xs lo (lo+nrem)->Q (some n) (setArr st xs)):wpS (model prog w) A E s (countRun' lo nrem) Q st:=by
 rw[countRun'_eq];refine wpS_bind (wpS_mono (wpS_forRange (I:=fun i c st'=>c=(none,i)∧st'=st∧i≤nrem∧Seg κ (arrOf st) lo (lo+i))
  (Q:=fun c st'=>∃n,c=(none,n)/\st'=st/\1<=n/\n<=nrem/\Seg κ (arrOf st) lo (lo+n)/\(n=nrem\/κ.klt (KK κ (arrOf st) (lo+n)) (KK κ (arrOf st) (lo+n-1)))) ?st1 ?fi1 ⟨rfl,rfl,h1,z6⟩) ?po1)
 case fi1=>rintro c st' ⟨rfl,rfl,hle,hsg⟩;exact⟨_,rfl,rfl,by lia,hle,hsg,.inl (by lia)⟩
 case st1=>
  rintro i c st' hi1 hi2 ⟨rfl,rfl,hle,hsg⟩;dsimp only;refine wpS_bind (l9 hL hB h0 (by lia) (by lia) ?_);dsimp only;cases hb:κ.blt (KK κ (arrOf st') (lo+i)) (KK κ (arrOf st') (lo+i-1))
  case true=>rw[if_pos rfl];exact wpS_pure ⟨i,rfl,rfl,hi1,hle,hsg,.inr hb⟩
  case false=>rw[if_neg (by decide)];exact wpS_pure ⟨rfl,rfl,by lia,pM hsg hi1 hb⟩
 case po1=>
  rintro c st' ⟨n,rfl,rfl,hn1,hle,hsg,hstop⟩;dsimp only;by_cases hnn:n=nrem
  ·rw[if_pos (by simpa using hnn)];exact wpS_pure (h n _ hn1 hle (Array.Perm.refl _) hsg (Out.refl _ _ _))
  ·rw[if_neg (by simpa using hnn)];have Cs:κ.klt (KK κ (arrOf st') (lo+n)) (KK κ (arrOf st') (lo+n-1)):=hstop.resolve_left hnn;by_cases hn2:n>1
   ·rw[if_pos hn2];refine wpS_bind (l9 hL hB h0 (by lia) (by lia) ?_);dsimp only;cases hb:κ.blt (KK κ (arrOf st') lo) (KK κ (arrOf st') (lo+n-1))
    case true=>rw[if_pos rfl];exact wpS_pure (h n _ hn1 hle (Array.Perm.refl _) hsg (Out.refl _ _ _))
    case false=>
     rw[if_neg (by decide)];have hsz:=hB.size;have EI:∀p,lo<=p->p<lo+n->KK κ (arrOf st') p=KK κ (arrOf st') (lo+n-1):=fun p h2 h3=>KeyOrd.kle_antisymm (hsg p _ h2 (by lia) (by lia)) (LN hb (hsg lo p (by lia) h2 h3))
     have ke:=nR (κ:=κ) (xs:=arrOf st') (i:=lo) (j:=lo+n) (by lia) EI;refine wpS_bind ?_;rw[reverseSlice'_eq];refine wpS_modify ?_;have hB2:SB kd a₀ (setArr st' (mirror (arrOf st') lo (lo+n) ((lo+n-lo) / 2))):=hB.arr (mirror_perm _ _ _ _);refine sS hL h0 hB2 hn hn1 (by lia) ?_ fun m xs h2 h3 h4 h5 h6=>?_
     ·have:uK κ (arrOf st') lo (lo+(n+1)):=dP (fun p q a b c=>by rw[EI p a (by lia),EI q (by lia) c];exact LB _) hn1 (Lo Cs);intro p q a b c;show κ.kle (KK κ (mirror (arrOf st') lo (lo+n) ((lo+n-lo) / 2)) q) (KK κ (mirror (arrOf st') lo (lo+n) ((lo+n-lo) / 2)) p);rw[ke,ke];exact this p q a b c
     ·exact h m xs h2 h3 (h4.trans (mirror_perm _ _ _ _)) h5 (((d8 (by lia)).mono (by lia) (by lia)).trans h6)
   ·rw[if_neg hn2];have:n=1:=by lia
    subst this;refine sS hL h0 hB hn hn1 (by lia) ?_ h;exact dP (fun p q a b c=>by
     have:p=q:=by lia
     subst this;exact LB _) hn1 (Lo Cs)
end
end Ts
namespace Ts
open PySem PyProof.Rows
variable{M:Model}{A:Around}{E:Value->Shared->Prop}{s:Shared}{κ:KeyKind}{kd:SortKind}{a₀:Array Keyed}
noncomputable def jm:Bool->Keyed->Array Keyed->Nat->Nat->Nat->StateT SortSt Sem (Option Nat):=sortPriv% PySem.Builtin.gallop
noncomputable def bey(left:Bool)(x:Keyed)(xs:Array Keyed)(i:Nat):StateT SortSt Sem (Option Bool):=do
 let y <- elem' xs i
 if left then lt' y x
 else
  let c <- lt' x y
  return c.map (!·)
theorem EJ(left:Bool)(x:Keyed)(xs:Array Keyed)(b n hint:Nat):jm left x xs b n hint=(do
  let mut l:=0
  let mut o:=1
  let mut u:=0
  let mut v:=0
  let some c <- bey left x xs (b+hint)
   |return none
  if c then
   let m:=n-hint
   for _ in [0:n] do
    if o≥m then break
    let some d <- bey left x xs (b+(hint+o))
     |return none
    if !d then break
    l:=o
    o:=2*o+1
   u:=hint+l+1
   v:=hint+min o m
  else
   let m:=hint+1
   for _ in [0:n] do
    if o≥m then break
    let some d <- bey left x xs (b+(hint-o))
     |return none
    if d then break
    l:=o
    o:=2*o+1
   u:=hint+1-min o m
   v:=hint-l
  for _ in [0:n] do
   if u≥v then break
   let z:=u+(v-u) / 2
   let some d <- bey left x xs (b+z)
    |return none
   if d then u:=z+1
   else v:=z
  return some v):=rfl
noncomputable def pass(κ:KeyKind)(left:Bool)(k:κ.α)(xs:Array Keyed)(i:Nat):Bool:=if left then κ.blt (KK κ xs i) k else !κ.blt k (KK κ xs i)
theorem uL{left:Bool}{k:κ.α}{xs:Array Keyed}{i j:Nat}(h:κ.kle (KK κ xs i) (KK κ xs j))(hp:pass κ left k xs j=true):pass κ left k xs i=true:=by
 unfold pass at hp ⊢;cases left with
 |true=>exact KeyOrd.klt_of_kle_of_klt h hp
 |false=>
  have hp':κ.blt k (KK κ xs j)=false:=by simpa using hp
  have:κ.blt k (KK κ xs i)=false:=by
   cases hb:κ.blt k (KK κ xs i)
   ·rfl
   ·have:=KeyOrd.klt_of_klt_of_kle (O:=κ.toKeyOrd) hb h;rw[show κ.klt k (KK κ xs j)=(κ.blt k (KK κ xs j)=true) from rfl,hp']at this;cases this
  simp[this]
theorem nS(hL:cW M A E s κ kd){left:Bool}{x:Keyed}{k:κ.α}{xs:Array Keyed}{i:Nat}{st:SortSt}(hx:κ.keyOf x.1=some k)(hk:KeysOf κ xs)(hi:i<xs.size)(hd:kindOf st=kd){Q:Option Bool->SortSt->Prop}
  (h:Q (some (pass κ left k xs i)) st):wpS M A E s (bey left x xs i) Q st:=by
 obtain⟨p,ep,kp⟩:=nQ hk hi;unfold bey;rw[elem'_eq,ep];refine wpS_bind (wpS_pure ?_);unfold pass at h;cases left with
 |true=>exact hL p x _ _ st Q kp hx hd h
 |false=>exact wpS_bind (hL x p _ _ st _ hx kp hd (wpS_pure h))
noncomputable def HE(left:Bool)(x:Keyed)(xs:Array Keyed)(b n u0 v0:Nat):StateT SortSt Sem (Option Nat):=do
 let mut u:=u0
 let mut v:=v0
 for _ in [0:n] do
  if u≥v then break
  let z:=u+(v-u) / 2
  let some d <- bey left x xs (b+z)
   |return none
  if d then u:=z+1
  else v:=z
 return some v
theorem wU(hL:cW M A E s κ kd){left:Bool}{x:Keyed}{k:κ.α}{xs:Array Keyed}{b n u0 v0:Nat}{st:SortSt}(hx:κ.keyOf x.1=some k)(hk:KeysOf κ xs)(hb:b+n<=xs.size)(hd:kindOf st=kd)
  (up:∀i j,i<=j->j<n->pass κ left k xs (b+j)=true->pass κ left k xs (b+i)=true) (dn:∀i j,i<=j->j<n->pass κ left k xs (b+i)=false->pass κ left k xs (b+j)=false)
  (huv:u0<=v0) (hv:v0<=n) (hu1:∀i,i<u0->pass κ left k xs (b+i)=true) (hv1:∀i,v0<=i->i<n->pass κ left k xs (b+i)=false) {Q:Option Nat->SortSt->Prop}
  (h:∀m,m<=n->(∀i,i<m->pass κ left k xs (b+i)=true)->(∀i,m<=i->i<n->pass κ left k xs (b+i)=false)->Q (some m) st):wpS M A E s (HE left x xs b n u0 v0) Q st:=by
 unfold HE;refine wpS_bind (wpS_mono (wpS_forRange (I:=fun i c st'=>∃ u v,c=(none,u,v)∧st'=st∧u≤v∧v≤n∧v-u≤n-i∧(∀ i,i<u→pass κ left k xs (b+i)=true)∧(∀ i,v≤i→i<n→pass κ left k xs (b+i)=false))
  (Q:=fun c st'=>∃v,c=(none,v,v)/\st'=st/\v<=n/\(∀i,i<v->pass κ left k xs (b+i)=true)/\(∀i,v<=i->i<n->pass κ left k xs (b+i)=false)) ?s1 ?f1 ⟨u0,v0,rfl,rfl,huv,hv,by lia,hu1,hv1⟩) ?p1)
 case f1=>
  rintro c st' ⟨u,v,rfl,rfl,h1,h2,h3,h4,h5⟩;have:u=v:=by lia
  subst this;exact⟨u,rfl,rfl,h2,h4,h5⟩
 case s1=>
  rintro i c st' _ hi ⟨u,v,rfl,rfl,h1,h2,h3,h4,h5⟩;dsimp only;by_cases hu:u≥v
  ·rw[if_pos hu];have:u=v:=by lia
   subst this;exact wpS_pure ⟨u,rfl,rfl,h2,h4,h5⟩
  ·rw[if_neg hu];refine wpS_bind (nS hL hx hk (by lia) hd ?_);dsimp only;cases hp:pass κ left k xs (b+(u+(v-u) / 2))
   case true=>rw[if_pos rfl];exact wpS_pure ⟨u+(v-u) / 2+1,v,rfl,rfl,by lia,h2,by lia,fun j hj=>up j _ (by lia) (by lia) hp,h5⟩
   case false=>rw[if_neg (by decide)];exact wpS_pure ⟨u,u+(v-u) / 2,rfl,rfl,by lia,by lia,by lia,h4,fun j hj hj2=>dn _ j hj hj2 hp⟩
 case p1=>rintro c st' ⟨v,rfl,rfl,h2,h3,h4⟩;exact wpS_pure (h v h2 h3 h4)
theorem iW(hL:cW M A E s κ kd){left:Bool}{x:Keyed}{k:κ.α}{xs:Array Keyed}{b n hint:Nat}{st:SortSt}(hx:κ.keyOf x.1=some k)(hk:KeysOf κ xs)(hb:b+n<=xs.size)(hh:hint<n)(hs:Seg κ xs b (b+n))(hd:kindOf st=kd){Q:Option Nat->SortSt->Prop}
  (h:∀m,m<=n->(∀i,i<m->pass κ left k xs (b+i)=true)->(∀i,m<=i->i<n->pass κ left k xs (b+i)=false)->Q (some m) st):wpS M A E s (jm left x xs b n hint) Q st:=by
 have up:∀i j,i<=j->j<n->pass κ left k xs (b+j)=true->pass κ left k xs (b+i)=true:=fun i j h1 h2=>uL (hs _ _ (by lia) (by lia) (by lia));have dn:∀i j,i<=j->j<n->pass κ left k xs (b+i)=false->pass κ left k xs (b+j)=false:=fun i j h1 h2 h3=>by
  cases e:pass κ left k xs (b+j)
  ·rfl
  ·rw[up i j h1 h2 e]at h3;cases h3
 rw[EJ];dsimp only;refine wpS_bind (nS hL hx hk (by lia) hd ?_);dsimp only;cases hc:pass κ left k xs (b+hint)
 case true=>
  rw[if_pos rfl];refine wpS_bind (wpS_mono (wpS_forRange (I:=fun i c st'=>∃ l o,c=(none,l,o)∧st'=st∧i+1≤o∧l<o∧hint+l<n∧pass κ left k xs (b+(hint+l))=true)
   (Q:=fun c st'=>∃l o,c=(none,l,o)/\st'=st/\l<o/\hint+l<n/\pass κ left k xs (b+(hint+l))=true/\(o<n-hint->pass κ left k xs (b+(hint+o))=false)) ?s1 ?f1 ⟨0,1,rfl,rfl,by lia,by lia,by lia,hc⟩) ?p1)
  case f1=>rintro c st' ⟨l,o,rfl,rfl,h1,h2,h3,h4⟩;exact⟨l,o,rfl,rfl,h2,h3,h4,fun z=>by lia⟩
  case s1=>
   rintro i c st' _ hi ⟨l,o,rfl,rfl,h1,h2,h3,h4⟩;dsimp only;by_cases ho:o≥n-hint
   ·rw[if_pos ho];exact wpS_pure ⟨l,o,rfl,rfl,h2,h3,h4,fun z=>by lia⟩
   ·rw[if_neg ho];refine wpS_bind (nS hL hx hk (by lia) hd ?_);dsimp only;cases hp:pass κ left k xs (b+(hint+o))
    case false=>rw[if_pos (by decide)];exact wpS_pure ⟨l,o,rfl,rfl,h2,h3,h4,fun _=>hp⟩
    case true=>rw[if_neg (by decide)];exact wpS_pure ⟨o,2*o+1,rfl,rfl,by lia,by lia,by lia,hp⟩
  case p1=>
   rintro c st' ⟨l,o,rfl,rfl,h2,h3,h4,h5⟩;dsimp only;refine wU hL hx hk hb hd up dn (u0:=hint+l+1) (v0:=hint+min o (n-hint)) (by lia) (by lia) (fun j hj=>up j _ (by lia) h3 h4) (fun j hj hj2=>?_) h;by_cases ho:o<n-hint
   ·exact dn (hint+o) j (by lia) hj2 (h5 ho)
   ·lia
 case false=>
  rw[if_neg (by decide)];refine wpS_bind (wpS_mono (wpS_forRange (I:=fun i c st'=>∃ l o,c=(none,l,o)∧st'=st∧i+1≤o∧l<o∧l≤hint∧pass κ left k xs (b+(hint-l))=false)
   (Q:=fun c st'=>∃l o,c=(none,l,o)/\st'=st/\l<o/\l<=hint/\pass κ left k xs (b+(hint-l))=false/\(o<hint+1->pass κ left k xs (b+(hint-o))=true)) ?s2 ?f2 ⟨0,1,rfl,rfl,by lia,by lia,by lia,hc⟩) ?p2)
  case f2=>rintro c st' ⟨l,o,rfl,rfl,h1,h2,h3,h4⟩;exact⟨l,o,rfl,rfl,h2,h3,h4,fun z=>by lia⟩
  case s2=>
   rintro i c st' _ hi ⟨l,o,rfl,rfl,h1,h2,h3,h4⟩;dsimp only;by_cases ho:o≥hint+1
   ·rw[if_pos ho];exact wpS_pure ⟨l,o,rfl,rfl,h2,h3,h4,fun z=>by lia⟩
   ·rw[if_neg ho];refine wpS_bind (nS hL hx hk (by lia) hd ?_);dsimp only;cases hp:pass κ left k xs (b+(hint-o))
    case true=>rw[if_pos rfl];exact wpS_pure ⟨l,o,rfl,rfl,h2,h3,h4,fun _=>hp⟩
    case false=>rw[if_neg (by decide)];exact wpS_pure ⟨o,2*o+1,rfl,rfl,by lia,by lia,by lia,hp⟩
  case p2=>
   rintro c st' ⟨l,o,rfl,rfl,h2,h3,h4,h5⟩;dsimp only;refine wU hL hx hk hb hd up dn (u0:=hint+1-min o (hint+1)) (v0:=hint-l) (by lia) (by lia) (fun j hj=>?_) (fun j hj hj2=>dn _ j hj hj2 h4) h;by_cases ho:o<hint+1
   ·exact up j (hint-o) (by lia) (by lia) (h5 ho)
   ·lia
end Ts
namespace Ts
open PySem PyProof.Rows
variable{M:Model}{A:Around}{E:Value->Shared->Prop}{s:Shared}{κ:KeyKind}{kd:SortKind}{a₀:Array Keyed}
section
variable{i:Nat}
noncomputable def EK:Array Keyed->Array Keyed->StateT SortSt Sem (Array Keyed):=sortPriv% PySem.Builtin.mergeLo
noncomputable def EL:Array Keyed->Array Keyed->StateT SortSt Sem (Array Keyed):=sortPriv% PySem.Builtin.mergeHi
noncomputable def setG(st:SortSt)(g:Nat):SortSt:=MM (kindOf st) (arrOf st) (pendingOf st) g (failedOf st)
noncomputable def lE(g:Nat):StateT SortSt Sem Unit:=modify fun st=>MM (kindOf st) (arrOf st) (pendingOf st) g (failedOf st)
theorem EM(a b:Array Keyed):EK a b=(do
  rule "list.sort.merge-lo"
  let t:=a.size+b.size
  let dn (o:Array Keyed) (i j:Nat):=o++a.extract i a.size++b.extract j b.size
  let la (o:Array Keyed) (i j:Nat):=o++b.extract j b.size++a.extract i a.size
  let mut o:Array Keyed:=#[<- elem' b 0]
  let mut i:=0
  let mut j:=1
  if j == b.size then return dn o i j
  if i+1 == a.size then return la o i j
  let mut g:=gallopOf (<- get)
  for _ in [0:t] do
   let mut ca:=0
   let mut cb:=0
   for _ in [0:t] do
    let some EN <- lt' (<- elem' b j) (<- elem' a i)
     |return dn o i j
    if EN then
     o:=o.push (<- elem' b j)
     j:=j+1
     cb:=cb+1
     ca:=0
     if j == b.size then return dn o i j
     if cb≥g then break
    else
     o:=o.push (<- elem' a i)
     i:=i+1
     ca:=ca+1
     cb:=0
     if i+1 == a.size then return la o i j
     if ca≥g then break
   rule "list.sort.gallop"
   g:=g+1
   for _ in [0:t] do
    if g>1 then g:=g-1
    lE g
    let some k <- jm false (<- elem' b j) a i (a.size-i) 0
     |return dn o i j
    ca:=k
    if k>0 then
     o:=o++a.extract i (i+k)
     i:=i+k
     if i+1 == a.size then return la o i j
     if i == a.size then return dn o i j
    o:=o.push (<- elem' b j)
    j:=j+1
    if j == b.size then return dn o i j
    let some k <- jm true (<- elem' a i) b j (b.size-j) 0
     |return dn o i j
    cb:=k
    if k>0 then
     o:=o++b.extract j (j+k)
     j:=j+k
     if j == b.size then return dn o i j
    o:=o.push (<- elem' a i)
    i:=i+1
    if i+1 == a.size then return la o i j
    if ca<7&&cb<7 then break
   g:=g+1
   lE g
  unsupported "internal:list.sort.merge-bound"):=rfl
noncomputable def kp(κ:KeyKind)(p:Keyed):κ.α:=(κ.keyOf p.1).getD κ.dflt
def le(κ:KeyKind)(x y:Keyed):Prop:=κ.kle (kp κ x) (kp κ y)
structure MI(κ:KeyKind)(o A B tot:List Keyed):Prop where
 so:o.Pairwise (le κ)
 oA:∀x∈o,∀y∈A,le κ x y
 oB:∀x∈o,∀y∈B,le κ x y
 sA:A.Pairwise (le κ)
 sB:B.Pairwise (le κ)
 pm:(o++(A++B)).Perm tot
def Done(κ:KeyKind)(tot r:List Keyed):Prop:=r.Perm tot/\r.Pairwise (le κ)
theorem MI.EO{o A1 A2 B tot:List Keyed}(h:MI κ o (A1++A2) B tot)(hl:∀x∈A1,∀y∈B,le κ x y):MI κ (o++A1) A2 B tot where
 so:=La.mpr ⟨h.so,(La.mp h.sA).1,fun x hx y hy=>h.oA x hx y (Lv _ hy)⟩
 oA:=fun x hx y hy=>by
  rcases K3.mp hx with hx | hx
  ·exact h.oA x hx y (KQ _ hy)
  ·exact(La.mp h.sA).2.2 x hx y hy
 oB:=fun x hx y hy=>by
  rcases K3.mp hx with hx | hx
  ·exact h.oB x hx y hy
  ·exact hl x hx y hy
 sA:=(La.mp h.sA).2.1
 sB:=h.sB
 pm:=by
  have:=h.pm
  rwa [Ln,<- Ln A1] 
theorem MI.swap{o A B tot:List Keyed}(h:MI κ o A B tot):MI κ o B A tot:=⟨h.so,h.oB,h.oA,h.sB,h.sA,(M3.append_left o M4).trans h.pm⟩
theorem MI.ER{o A B1 B2 tot:List Keyed}(h:MI κ o A (B1++B2) tot)(hl:∀x∈B1,∀y∈A,le κ x y):MI κ (o++B1) A B2 tot:=(h.swap.EO hl).swap
theorem MI.uM{o A tot:List Keyed}(h:MI κ o A [] tot):Done κ tot (o++A):=⟨by have:=h.pm;rwa [K4]at this,La.mpr ⟨h.so,h.sA,h.oA⟩⟩
theorem MI.z7{o B tot:List Keyed}(h:MI κ o [] B tot):Done κ tot (o++B):=h.swap.uM
theorem MI.wV{o A B tot:List Keyed}(h:MI κ o A B tot)(hl:∀x∈B,∀y∈A,le κ x y):Done κ tot (o++B++A):=
 (MI.ER (B2:=[]) (by rw[K4];exact h) hl).uM
theorem jx{a:Array Keyed}(h:i<a.size):a.toList.drop i=a[i]::a.toList.drop (i+1):=by rw[Lp (by rw[KR];exact h)];simp
theorem cX{a:Array Keyed}{i k:Nat}:a.toList.drop i=(a.extract i (i+k)).toList++a.toList.drop (i+k):=by rw[LP,Ly,show i+k-i=k by lia,<- List.drop_drop];exact(Mg k _).symm
theorem dB{a:Array Keyed}:(a.extract i a.size).toList=a.toList.drop i:=by rw[LP,Ly,LG];rw[MA,KR];exact Nat.le_refl _
theorem bx{a:Array Keyed}(h:i<a.size):elem' a i=pure a[i]:=by rw[elem'_eq,getElem?_pos a i h]
theorem aU{xs:Array Keyed}(hk:KeysOf κ xs)(h:i<xs.size):κ.keyOf (xs[i]).1=some (kp κ xs[i])/\KK κ xs i=kp κ xs[i]:=by
 obtain⟨p,e,k⟩:=nQ hk h;rw[getElem?_pos xs i h]at e;cases e;have:KK κ xs i=kp κ xs[i]:=by unfold kp;rw[k];rfl
 exact⟨by rw[k,this],this⟩
theorem wW{xs:Array Keyed}(hk:KeysOf κ xs)(h:xs.toList.Pairwise (le κ)):Seg κ xs 0 xs.size:=fun p q _ h2 h3=>by
 rw[(aU hk (i:=p) (by lia)).2,(aU hk h3).2];by_cases e:p=q
 ·subst e;exact LB _
 ·have:=MF.mp h p q (by simp;lia) (by simpa using h3) (by lia);have dD:le κ xs[p] xs[q]:=by simpa using this
  exact dD
theorem le_trans{x y z:Keyed}(h:le κ x y)(h':le κ y z):le κ x z:=LN h h'
theorem le_refl(x:Keyed):le κ x x:=LB _
theorem fO{a:Array Keyed}(h:i<a.size)(hs:(a.toList.drop i).Pairwise (le κ)):∀y∈a.toList.drop i,le κ a[i] y:=fun y hy=>by
 rw[jx h]at hs hy;rcases KD.mp hy with rfl | hy
 ·exact le_refl _
 ·exact(LO.mp hs).1 y hy
end
end Ts
namespace Ts
open PySem PyProof.Rows
variable{A:Around}{E:Value->Shared->Prop}{s:Shared}{κ:KeyKind}{kd:SortKind}{a₀:Array Keyed}{prog:Program}{w:World}
section
variable{a b:Array Keyed}
section
variable{i j:Nat}
def IM(κ:KeyKind)(a b o:Array Keyed)(i j:Nat):Prop:=i+1<a.size/\j<b.size/\MI κ o.toList (a.toList.drop i) (b.toList.drop j) (a.toList++b.toList)
theorem fm{x:Array Keyed}{i:Nat}(h:x.size<=i):x.toList.drop i=[]:=MW (by rw[KR];exact h)
theorem jy{o:Array Keyed}(h:MI κ o.toList (a.toList.drop i) (b.toList.drop j) (a.toList++b.toList))(hj:j=b.size):Done κ (a.toList++b.toList) (o++a.extract i a.size++b.extract j b.size).toList:=by rw[K2,K2,dB,dB];rw[fm (x:=b) (by lia)]at h ⊢;rw[K4];exact h.uM
theorem z8{o:Array Keyed}(h:MI κ o.toList (a.toList.drop i) (b.toList.drop j) (a.toList++b.toList))(hi:i=a.size):Done κ (a.toList++b.toList) (o++a.extract i a.size++b.extract j b.size).toList:=by rw[K2,K2,dB,dB];rw[fm (x:=a) (by lia)]at h ⊢;rw[K4];exact h.z7
theorem nT{o:Array Keyed}(ha:1<=a.size)(last:∀y∈b.toList,le κ y (a[a.size-1]'(by omega)))(h:MI κ o.toList (a.toList.drop i) (b.toList.drop j) (a.toList++b.toList))(hi:i+1=a.size):Done κ (a.toList++b.toList) (o++b.extract j b.size++a.extract i a.size).toList:=by
 rw[K2,K2,dB,dB];refine h.wV fun x hx y hy=>?_;rw[jx (by lia),fm (x:=a) (by lia)]at hy;rw[KS]at hy;subst hy;have:=last x (List.mem_of_mem_drop hx)
 rwa [show a[a.size-1]'(by lia)=a[i]'(by lia) by congr 1;lia]at this
theorem qT{o:Array Keyed}(hj:j<b.size)(h:MI κ o.toList (a.toList.drop i) (b.toList.drop j) (a.toList++b.toList))(hl:∀y∈a.toList.drop i,le κ b[j] y):MI κ (o.push b[j]).toList (a.toList.drop i) (b.toList.drop (j+1)) (a.toList++b.toList):=by rw[Mv];rw[jx hj]at h;exact MI.ER (B1:=[b[j]]) h fun x hx y hy=>by rw[KS]at hx;subst hx;exact hl y hy
theorem wX{o:Array Keyed}(hi:i<a.size)(h:MI κ o.toList (a.toList.drop i) (b.toList.drop j) (a.toList++b.toList))(hl:∀y∈b.toList.drop j,le κ a[i] y):MI κ (o.push a[i]).toList (a.toList.drop (i+1)) (b.toList.drop j) (a.toList++b.toList):=by rw[Mv];rw[jx hi]at h;exact MI.EO (A1:=[a[i]]) h fun x hx y hy=>by rw[KS]at hx;subst hx;exact hl y hy
theorem bz{x:Array Keyed}{i k:Nat}{p:Keyed}(h:p∈(x.extract i (i+k)).toList):∃m,m<k/\∃hm:i+m<x.size,p=x[i+m]:=by obtain⟨n,hn,e⟩:=Nc h;rw[KR,Ms]at hn;refine⟨n,by lia,by lia,?_⟩;rw[<- e];simp
theorem pN{x:Array Keyed}(hk:KeysOf κ x)(h:x.toList.Pairwise (le κ)){i:Nat}(hi:i<=x.size):Seg κ x i (i+(x.size-i)):=fun p q h1 h2 h3=>wW hk h p q (by lia) h2 (by lia)
noncomputable abbrev z9:=Option (Array Keyed)×Array Keyed×Nat×Nat×Nat×Nat×Nat
noncomputable def lA(a b o:Array Keyed)(i j g ca k:Nat):StateT SortSt Sem (ForInStep z9):=do
 let z <- elem' a i
 if i+1+1 == a.size then pure (Lj (some (o.push z++b.extract j b.size++a.extract (i+1) a.size),o.push z,i+1,j,g,ca,k))
 else if ca<7&&k<7 then pure (Lj (none,o.push z,i+1,j,g,ca,k))
 else pure (LJ (none,o.push z,i+1,j,g,ca,k))
noncomputable def lB(a b o:Array Keyed)(i j g ca cb:Nat):StateT SortSt Sem (ForInStep z9):=do
 let z <- elem' b j
 if j+1 == b.size then pure (Lj (some (o.push z++a.extract i a.size++b.extract (j+1) b.size),o.push z,i,j+1,g,ca,cb))
 else do
  let y <- elem' a i
  let r <- jm true y b (j+1) (b.size-(j+1)) 0
  match r with
   |some k=>
    if k>0 then
     if j+1+k == b.size then pure (Lj (some (o.push z++b.extract (j+1) (j+1+k)++a.extract i a.size++b.extract (j+1+k) b.size),o.push z++b.extract (j+1) (j+1+k),i,j+1+k,g,ca,k))
     else lA a b (o.push z++b.extract (j+1) (j+1+k)) i (j+1+k) g ca k
    else lA a b (o.push z) i (j+1) g ca k
   |x=>pure (Lj (some (o.push z++a.extract i a.size++b.extract (j+1) b.size),o.push z,i,j+1,g,ca,cb))
noncomputable def lC(a b o:Array Keyed)(i j g ca cb:Nat):StateT SortSt Sem (ForInStep z9):=do
 lE g
 let z <- elem' b j
 let r <- jm false z a i (a.size-i) 0
 match r with
  |some k=>
   if k>0 then
    if i+k+1 == a.size then pure (Lj (some (o++a.extract i (i+k)++b.extract j b.size++a.extract (i+k) a.size),o++a.extract i (i+k),i+k,j,g,k,cb))
    else if i+k == a.size then pure (Lj (some (o++a.extract i (i+k)++a.extract (i+k) a.size++b.extract j b.size),o++a.extract i (i+k),i+k,j,g,k,cb))
    else lB a b (o++a.extract i (i+k)) (i+k) j g k cb
   else lB a b o i j g k cb
  |x=>pure (Lj (some (o++a.extract i a.size++b.extract j b.size),o,i,j,g,ca,cb))
def z_(κ:KeyKind)(a b:Array Keyed)(N:Nat)(st:SortSt)(r:ForInStep z9)(st':SortSt):Prop:=(∃g',st'=setG st g')/\match r with
 |.done c=>(∃r z,c=(some r,z)/\Done κ (a.toList++b.toList) r.toList)\/∃o i j g ca cb,c=(none,o,i,j,g,ca,cb)/\IM κ a b o i j/\N<=o.size
 |.yield c=>∃o i j g ca cb,c=(none,o,i,j,g,ca,cb)/\IM κ a b o i j/\N<=o.size
theorem B6{M:Model}{o:Array Keyed}{i j g ca k N:Nat}{st st':SortSt}(ha:1<=a.size)(last:∀y∈b.toList,le κ y (a[a.size-1]'(by omega)))(hs:∃g',st'=setG st g')(hi:i+1<a.size)(hj:j<b.size)
  (mi:MI κ o.toList (a.toList.drop i) (b.toList.drop j) (a.toList++b.toList)) (hl:∀y∈b.toList.drop j,le κ (a[i]'(by omega)) y) (hN:N<=o.size):wpS M A E s (lA a b o i j g ca k) (z_ κ a b N st) st':=by
 unfold lA;rw[bx (a:=a) (i:=i) (by lia)];refine wpS_bind (wpS_pure ?_);have mi2:=wX (by lia) mi hl;by_cases h1:i+1+1=a.size
 ·rw[if_pos (by simpa using h1)];exact wpS_pure ⟨hs,.inl ⟨_,_,rfl,nT ha last mi2 h1⟩⟩
 ·rw[if_neg (by simpa using h1)];have im:IM κ a b (o.push (a[i]'(by lia))) (i+1) j:=⟨by lia,hj,mi2⟩
  split
  ·exact wpS_pure ⟨hs,.inr ⟨_,_,_,_,_,_,rfl,im,by rw[Lb];lia⟩⟩
  ·exact wpS_pure ⟨hs,⟨_,_,_,_,_,_,rfl,im,by rw[Lb];lia⟩⟩
theorem B7{M:Model}(hL:cW M A E s κ kd)(ka:KeysOf κ a)(kb:KeysOf κ b)(sb:b.toList.Pairwise (le κ)){o:Array Keyed}{i j g ca cb N:Nat}{st st':SortSt}(ha:1<=a.size)(last:∀y∈b.toList,le κ y (a[a.size-1]'(by omega)))(hd:kindOf st=kd)(hs:∃g',st'=setG st g')(hi:i+1<a.size)(hj:j<b.size)
  (mi:MI κ o.toList (a.toList.drop i) (b.toList.drop j) (a.toList++b.toList)) (hl:∀y∈a.toList.drop i,le κ b[j] y) (hN:N<=o.size):wpS M A E s (lB a b o i j g ca cb) (z_ κ a b N st) st':=by
 unfold lB;rw[bx hj];refine wpS_bind (wpS_pure ?_);have mi2:=qT hj mi hl;by_cases h1:j+1=b.size
 ·rw[if_pos (by simpa using h1)];exact wpS_pure ⟨hs,.inl ⟨_,_,rfl,jy mi2 h1⟩⟩
 rw[if_neg (by simpa using h1),bx (a:=a) (i:=i) (by lia)];refine wpS_bind (wpS_pure ?_);obtain⟨g',rfl⟩:=hs;refine wpS_bind (iW (b:=j+1) (n:=b.size-(j+1)) (hint:=0) hL (aU ka (i:=i) (by lia)).1 kb (by lia) (by lia) (pN kb sb (by lia)) (st:=setG st g') hd fun k hk h2 h3=>?_)
 try dsimp only
 have le1:∀x∈(b.extract (j+1) (j+1+k)).toList,∀y∈a.toList.drop i,le κ x y:=fun x hx y hy=>by obtain⟨m,hm,hm2,rfl⟩:=bz hx;have:=h2 m hm;unfold pass at this;rw[if_pos rfl,(aU kb hm2).2]at this;exact le_trans (Lo this) (fO (by lia) mi.sA y hy)
 have le2:∀y∈b.toList.drop (j+1+k),le κ (a[i]'(by lia)) y:=fun y hy=>by
  by_cases Cs:j+1+k<b.size
  ·have:=h3 k (Nat.le_refl _) (by lia);unfold pass at this;rw[if_pos rfl,(aU kb Cs).2]at this;refine le_trans this (fO Cs ?_ y hy);exact Nr.sublist (List.drop_sublist _ _) sb
  ·rw[fm (by lia)]at hy;cases hy
 by_cases hk0:k>0
 ·rw[if_pos hk0];have mi3:MI κ (o.push b[j]++b.extract (j+1) (j+1+k)).toList (a.toList.drop i) (b.toList.drop (j+1+k)) (a.toList++b.toList):=by
   rw[K2];rw[cX (a:=b) (i:=j+1) (k:=k)]at mi2;exact mi2.ER le1
  by_cases h4:j+1+k=b.size
  ·rw[if_pos (by simpa using h4)];exact wpS_pure ⟨⟨_,rfl⟩,.inl ⟨_,_,rfl,jy mi3 h4⟩⟩
  ·rw[if_neg (by simpa using h4)];exact B6 ha last ⟨_,rfl⟩ hi (by lia) mi3 le2 (by rw[MQ,Lb];lia)
 ·rw[if_neg hk0];have:k=0:=by lia
  subst this;exact B6 ha last ⟨_,rfl⟩ hi (by lia) mi2 le2 (by rw[Lb];lia)
theorem HF{M:Model}(hL:cW M A E s κ kd)(ka:KeysOf κ a)(kb:KeysOf κ b)(sa:a.toList.Pairwise (le κ))(sb:b.toList.Pairwise (le κ)){o:Array Keyed}{i j g ca cb N:Nat}{st st':SortSt}(ha:1<=a.size)(last:∀y∈b.toList,le κ y (a[a.size-1]'(by omega)))(hd:kindOf st=kd)(hs:∃g',st'=setG st g')
  (im:IM κ a b o i j) (hN:N<=o.size):wpS M A E s (lC a b o i j g ca cb) (z_ κ a b N st) st':=by
 obtain⟨hi,hj,mi⟩:=im;obtain⟨g',rfl⟩:=hs;unfold lC;refine wpS_bind ?_;unfold lE;refine wpS_modify ?_;rw[bx hj];refine wpS_bind (wpS_pure ?_);refine wpS_bind (iW (b:=i) (n:=a.size-i) (hint:=0) hL (aU kb hj).1 ka (by lia) (by lia) (pN ka sa (by lia)) (st:=setG st g) hd fun k hk h2 h3=>?_)
 try dsimp only
 have le1:∀x∈(a.extract i (i+k)).toList,∀y∈b.toList.drop j,le κ x y:=fun x hx y hy=>by
  obtain⟨m,hm,hm2,rfl⟩:=bz hx;have:=h2 m hm;unfold pass at this;rw[if_neg (by decide),(aU ka hm2).2]at this;have dD:κ.blt (kp κ b[j]) (kp κ a[i+m])=false:=by simpa using this
  exact le_trans dD (fO hj mi.sB y hy)
 have le2:∀y∈a.toList.drop (i+k),le κ b[j] y:=fun y hy=>by
  by_cases Cs:i+k<a.size
  ·have:=h3 k (Nat.le_refl _) (by lia);unfold pass at this;rw[if_neg (by decide),(aU ka Cs).2]at this;have dD:κ.blt (kp κ b[j]) (kp κ a[i+k])=true:=by simpa using this
   refine le_trans (Lo dD) (fO Cs ?_ y hy);exact Nr.sublist (List.drop_sublist _ _) sa
  ·rw[fm (by lia)]at hy;cases hy
 by_cases hk0:k>0
 ·rw[if_pos hk0];have mi3:MI κ (o++a.extract i (i+k)).toList (a.toList.drop (i+k)) (b.toList.drop j) (a.toList++b.toList):=by
   rw[K2];rw[cX (a:=a) (i:=i) (k:=k)]at mi;exact mi.EO le1
  by_cases h4:i+k+1=a.size
  ·rw[if_pos (by simpa using h4)];exact wpS_pure ⟨⟨_,rfl⟩,.inl ⟨_,_,rfl,nT ha last mi3 h4⟩⟩
  rw[if_neg (by simpa using h4)];by_cases h5:i+k=a.size
  ·rw[if_pos (by simpa using h5)];exact wpS_pure ⟨⟨_,rfl⟩,.inl ⟨_,_,rfl,z8 mi3 h5⟩⟩
  rw[if_neg (by simpa using h5)];exact B7 hL ka kb sb ha last hd ⟨_,rfl⟩ (by lia) hj mi3 le2 (by rw[MQ];lia)
 ·rw[if_neg hk0];have:k=0:=by lia
  subst this;exact B7 hL ka kb sb ha last hd ⟨_,rfl⟩ hi hj mi le2 hN
theorem ES(hL:cW (model prog w) A E s κ kd)(ka:KeysOf κ a)(kb:KeysOf κ b)(sa:a.toList.Pairwise (le κ))(sb:b.toList.Pairwise (le κ))(ha:1<=a.size)(hb:1<=b.size)
  (first:∀y∈a.toList,le κ (b[0]'(by omega)) y) (last:∀y∈b.toList,le κ y (a[a.size-1]'(by omega))) {st:SortSt} (hd:kindOf st=kd) {Q:Array Keyed->SortSt->Prop}
  (h:∀r g,Done κ (a.toList++b.toList) r.toList->Q r (setG st g)):wpS (model prog w) A E s (EK a b) Q st:=by
 rw[EM];refine wpS_bind (wpS_lift (wpAny_rule ⟨rfl,?_⟩))
 try dsimp only
 rw[bx (a:=b) (i:=0) (by lia)];refine wpS_bind (wpS_pure ?_)
 try dsimp only
 have m0:MI κ (#[]:Array Keyed).toList (a.toList.drop 0) (b.toList.drop 0) (a.toList++b.toList):=⟨by simp,by simp,by simp,by simpa using sa,by simpa using sb,by simp⟩
 have m1:MI κ (#[b[0]'(by lia)]:Array Keyed).toList (a.toList.drop 0) (b.toList.drop 1) (a.toList++b.toList):=qT (o:=#[]) (j:=0) (by lia) m0 (by simpa using first);have same:setG st (gallopOf st)=st:=rfl;by_cases hb1:1=b.size
 ·rw[if_pos (by simpa using hb1)];exact wpS_pure (same▸h _ (gallopOf st) (jy m1 hb1))
 rw[if_neg (by simpa using hb1)];by_cases ha1:0+1=a.size
 ·rw[if_pos (by simpa using ha1)];exact wpS_pure (same▸h _ (gallopOf st) (nT ha last m1 ha1))
 rw[if_neg (by simpa using ha1)];refine wpS_bind (wpS_get ?_)
 try dsimp only
 have len:∀{o:Array Keyed} {i j:Nat},IM κ a b o i j->o.size<a.size+b.size:=fun {o i j} ⟨h1,h2,h3⟩=>by
  have:=h3.pm.length_eq;simp only[KL,KR,MA]at this
  lia
 refine wpS_bind (wpS_mono (wpS_forRange (I:=fun x c st'=>∃ o i j g,c=(none,o,i,j,g)∧(∃ g',st'=setG st g')∧IM κ a b o i j∧x+1≤o.size)
  (Q:=fun c st'=>∃r z,c=(some r,z)/\(∃g',st'=setG st g')/\Done κ (a.toList++b.toList) r.toList) ?st1 ?fi1 ⟨_,0,1,_,rfl,⟨gallopOf st,rfl⟩,⟨by lia,by lia,m1⟩,by simp⟩) ?po1)
 case fi1=>
  rintro c st' ⟨o,i,j,g,rfl,_,im,hsz⟩;have:=len im
  lia
 case po1=>rintro c st' ⟨r,z,rfl,⟨g',rfl⟩,hdn⟩;exact wpS_pure (h r g' hdn)
 case st1=>
  rintro x c st' _ hx ⟨o,i,j,g,rfl,⟨g',rfl⟩,im,hsz⟩
  try dsimp only
  refine wpS_bind (wpS_mono (wpS_forRange (I:=fun y c st''=>∃ o' i' j' ca cb,c=(none,o',i',j',ca,cb)∧st''=setG st g'∧IM κ a b o' i' j'∧o.size+y≤o'.size)
   (Q:=fun c st''=>st''=setG st g'/\((∃r z,c=(some r,z)/\Done κ (a.toList++b.toList) r.toList)\/∃o' i' j' ca cb,c=(none,o',i',j',ca,cb)/\IM κ a b o' i' j'/\o.size+1<=o'.size)) ?st2 ?fi2 ⟨o,i,j,0,0,rfl,rfl,im,by lia⟩) ?po2)
  case fi2=>rintro c st'' ⟨o',i',j',ca,cb,rfl,rfl,im',hs'⟩;exact⟨rfl,.inr ⟨o',i',j',ca,cb,rfl,im',by lia⟩⟩
  case st2=>
   rintro y c st'' _ hy ⟨o',i',j',ca,cb,rfl,rfl,⟨hi',hj',mi⟩,hs'⟩
   try dsimp only
   rw[bx hj',bx (a:=a) (i:=i') (by lia)];refine wpS_bind (wpS_pure (wpS_bind (wpS_pure ?_)));obtain⟨kb1,_⟩:=aU kb hj';obtain⟨ka1,_⟩:=aU ka (i:=i') (by lia);refine wpS_bind (hL _ _ _ _ _ _ kb1 ka1 hd ?_)
   try dsimp only
   cases hw:κ.blt (kp κ b[j']) (kp κ (a[i']'(by lia)))
   case true=>
    rw[if_pos rfl];refine wpS_bind (wpS_pure ?_)
    try dsimp only
    have mi2:=qT hj' mi fun y hy=>le_trans (Lo hw) (fO (by lia) mi.sA y hy);by_cases hjb:j'+1=b.size
    ·rw[if_pos (by simpa using hjb)];exact wpS_pure ⟨rfl,.inl ⟨_,_,rfl,jy mi2 hjb⟩⟩
    rw[if_neg (by simpa using hjb)];by_cases hg:cb+1≥g
    ·rw[if_pos hg];exact wpS_pure ⟨rfl,.inr ⟨_,_,_,_,_,rfl,⟨hi',by lia,mi2⟩,by rw[Lb];lia⟩⟩
    ·rw[if_neg hg];exact wpS_pure ⟨_,_,_,_,_,rfl,rfl,⟨hi',by lia,mi2⟩,by rw[Lb];lia⟩
   case false=>
    rw[if_neg (by decide)];refine wpS_bind (wpS_pure ?_)
    try dsimp only
    have mi2:=wX (by lia) mi fun y hy=>le_trans hw (fO hj' mi.sB y hy);by_cases hia:i'+1+1=a.size
    ·rw[if_pos (by simpa using hia)];exact wpS_pure ⟨rfl,.inl ⟨_,_,rfl,nT ha last mi2 hia⟩⟩
    rw[if_neg (by simpa using hia)];by_cases hg:ca+1≥g
    ·rw[if_pos hg];exact wpS_pure ⟨rfl,.inr ⟨_,_,_,_,_,rfl,⟨by lia,hj',mi2⟩,by rw[Lb];lia⟩⟩
    ·rw[if_neg hg];exact wpS_pure ⟨_,_,_,_,_,rfl,rfl,⟨by lia,hj',mi2⟩,by rw[Lb];lia⟩
  case po2=>
   rintro c st'' ⟨rfl,⟨r,z,rfl,hdn⟩ | ⟨o',i',j',ca,cb,rfl,im',hs'⟩⟩
   ·dsimp only;exact wpS_pure ⟨r,_,rfl,⟨_,rfl⟩,hdn⟩
   try dsimp only
   refine wpS_bind (wpS_lift (wpAny_rule ⟨rfl,?_⟩));refine wpS_bind (wpS_mono (wpS_forRange (I:=fun y c st''=>∃ o2 i2 j2 g2 ca cb,c=(none,o2,i2,j2,g2,ca,cb)∧(∃ g',st''=setG st g')∧IM κ a b o2 i2 j2∧o.size+1≤o2.size)
    (Q:=fun c st''=>(∃g',st''=setG st g')/\((∃r z,c=(some r,z)/\Done κ (a.toList++b.toList) r.toList)\/∃o2 i2 j2 g2 ca cb,c=(none,o2,i2,j2,g2,ca,cb)/\IM κ a b o2 i2 j2/\o.size+1<=o2.size)) ?st3 ?fi3 ⟨o',i',j',_,_,_,rfl,⟨_,rfl⟩,im',hs'⟩) ?po3)
   case fi3=>rintro c st'' ⟨o2,i2,j2,g2,ca,cb,rfl,hg,im2,hs2⟩;exact⟨hg,.inr ⟨o2,i2,j2,g2,ca,cb,rfl,im2,hs2⟩⟩
   case po3=>
    rintro c st'' ⟨⟨g3,rfl⟩,⟨r,z,rfl,hdn⟩ | ⟨o2,i2,j2,g2,ca,cb,rfl,im2,hs2⟩⟩
    ·dsimp only;exact wpS_pure ⟨r,_,rfl,⟨_,rfl⟩,hdn⟩
    ·dsimp only;refine wpS_bind ?_;unfold lE;exact wpS_modify (wpS_pure ⟨o2,i2,j2,_,rfl,⟨_,rfl⟩,im2,by lia⟩)
   case st3=>
    rintro y c st'' _ hy ⟨o2,i2,j2,g2,ca,cb,rfl,⟨g3,rfl⟩,⟨hi2,hj2,mi⟩,hs2⟩;show wpS _ _ _ _ (if g2>1 then lC a b o2 i2 j2 (g2-1) ca cb else lC a b o2 i2 j2 g2 ca cb) _ _;have Cq:∀g,wpS (model prog w) A E s (lC a b o2 i2 j2 g ca cb) (z_ κ a b (o.size+1) st) (setG st g3):=fun g=>HF hL ka kb sa sb ha last hd ⟨_,rfl⟩ ⟨hi2,hj2,mi⟩ hs2;split
    all_goals
     refine wpS_mono (Cq _) fun r st' hG=>?_;cases r with
     |done c=>exact hG
     |yield c=>obtain⟨hg,o,i,j,g,ca,cb,e,im,hz⟩:=hG;exact⟨o,i,j,g,ca,cb,e,hg,im,hz⟩
end
end
end Ts
namespace Ts
open PySem PyProof.Rows
variable{A:Around}{E:Value->Shared->Prop}{s:Shared}{κ:KeyKind}{kd:SortKind}{a₀:Array Keyed}{prog:Program}{w:World}
theorem ET(a b:Array Keyed):EL a b=(do
  rule "list.sort.merge-hi"
  let t:=a.size+b.size
  let dn (o:Array Keyed) (p q:Nat):=a.extract 0 p++b.extract 0 q++o.reverse
  let fb (o:Array Keyed) (p q:Nat):=b.extract 0 q++a.extract 0 p++o.reverse
  let mut p:=a.size-1
  let mut q:=b.size
  let mut o:Array Keyed:=#[<- elem' a p]
  if p == 0 then return dn o p q
  if q == 1 then return fb o p q
  let mut g:=gallopOf (<- get)
  for _ in [0:t] do
   let mut ca:=0
   let mut cb:=0
   for _ in [0:t] do
    let some EN <- lt' (<- elem' b (q-1)) (<- elem' a (p-1))
     |return dn o p q
    if EN then
     p:=p-1
     o:=o.push (<- elem' a p)
     ca:=ca+1
     cb:=0
     if p == 0 then return dn o p q
     if ca≥g then break
    else
     q:=q-1
     o:=o.push (<- elem' b q)
     cb:=cb+1
     ca:=0
     if q == 1 then return fb o p q
     if cb≥g then break
   rule "list.sort.gallop"
   g:=g+1
   for _ in [0:t] do
    if g>1 then g:=g-1
    lE g
    let some z <- jm false (<- elem' b (q-1)) a 0 p (p-1)
     |return dn o p q
    let k:=p-z
    ca:=k
    if k>0 then
     o:=o++(a.extract z p).reverse
     p:=z
     if p == 0 then return dn o p q
    q:=q-1
    o:=o.push (<- elem' b q)
    if q == 1 then return fb o p q
    let some z <- jm true (<- elem' a (p-1)) b 0 q (q-1)
     |return dn o p q
    let k:=q-z
    cb:=k
    if k>0 then
     o:=o++(b.extract z q).reverse
     q:=z
     if q == 1 then return fb o p q
     if q == 0 then return dn o p q
    p:=p-1
    o:=o.push (<- elem' a p)
    if p == 0 then return dn o p q
    if ca<7&&cb<7 then break
   g:=g+1
   lE g
  unsupported "internal:list.sort.merge-bound"):=rfl
structure MJ(κ:KeyKind)(R A B tot:List Keyed):Prop where
 sr:R.Pairwise (le κ)
 Ar:∀x∈A,∀y∈R,le κ x y
 Br:∀x∈B,∀y∈R,le κ x y
 sA:A.Pairwise (le κ)
 sB:B.Pairwise (le κ)
 pm:((A++B)++R).Perm tot
theorem MJ.swap{R A B tot:List Keyed}(h:MJ κ R A B tot):MJ κ R B A tot:=⟨h.sr,h.Br,h.Ar,h.sB,h.sA,(M3.append_right R M4).trans h.pm⟩
theorem MJ.EU{R A B1 B2 tot:List Keyed}(h:MJ κ R A (B1++B2) tot)(hl:∀x∈A,∀y∈B2,le κ x y):MJ κ (B2++R) A B1 tot where
 sr:=La.mpr ⟨(La.mp h.sB).2.1,h.sr,fun x hx y hy=>h.Br x (KQ _ hx) y hy⟩
 Ar:=fun x hx y hy=>by
  rcases K3.mp hy with hy | hy
  ·exact hl x hx y hy
  ·exact h.Ar x hx y hy
 Br:=fun x hx y hy=>by
  rcases K3.mp hy with hy | hy
  ·exact(La.mp h.sB).2.2 x hx y hy
  ·exact h.Br x (Lv _ hx) y hy
 sA:=h.sA
 sB:=(La.mp h.sB).1
 pm:=by
  have:=h.pm
  simpa [Ln] using this
theorem MJ.EV{R A1 A2 B tot:List Keyed}(h:MJ κ R (A1++A2) B tot)(hl:∀x∈B,∀y∈A2,le κ x y):MJ κ (A2++R) A1 B tot:=(h.swap.EU hl).swap
theorem MJ.uM{R A tot:List Keyed}(h:MJ κ R A [] tot):Done κ tot (A++R):=⟨by have:=h.pm;rwa [K4]at this,La.mpr ⟨h.sA,h.sr,h.Ar⟩⟩
theorem MJ.z7{R B tot:List Keyed}(h:MJ κ R [] B tot):Done κ tot (B++R):=h.swap.uM
theorem MJ.wV{R A B tot:List Keyed}(h:MJ κ R A B tot)(hl:∀x∈B,∀y∈A,le κ x y):Done κ tot (B++A++R):=by
 have:=(MJ.EV (A1:=[]) h hl).z7
 rwa [<- Ln]at this
section
variable{a b:Array Keyed}
section
variable{p q:Nat}
noncomputable abbrev MJa(κ:KeyKind)(a b o:Array Keyed)(p q:Nat):Prop:=MJ κ o.toList.reverse (a.toList.take p) (b.toList.take q) (a.toList++b.toList)
def IJ(κ:KeyKind)(a b o:Array Keyed)(p q:Nat):Prop:=1<=p/\p<=a.size/\2<=q/\q<=b.size/\MJa κ a b o p q
theorem b_{x:Array Keyed}{p:Nat}:(x.extract 0 p).toList=x.toList.take p:=by rw[LP,Ly,NT,Nat.sub_zero]
theorem jz{x:Array Keyed}{p:Nat}(h:p<x.size):x.toList.take (p+1)=x.toList.take p++[x[p]]:=by rw[List.take_succ,KG (by rw[KR];exact h)];simp
theorem pP{x:Array Keyed}{z p:Nat}(hz:z<=p):x.toList.take p=x.toList.take z++(x.extract z p).toList:=by rw[LP,Ly];have:=Mg z (x.toList.take p);rw[List.take_take,Nat.min_eq_left hz,List.drop_take]at this;exact this.symm
theorem nU{o:Array Keyed}(h:MJa κ a b o p q)(hp:p=0):Done κ (a.toList++b.toList) (a.extract 0 p++b.extract 0 q++o.reverse).toList:=by rw[K2,K2,b_,b_,Mi];subst hp;unfold MJa at h;rw[NU]at h ⊢;rw[LK];exact h.z7
theorem EW{o:Array Keyed}(h:MJa κ a b o p q)(hq:q=0):Done κ (a.toList++b.toList) (a.extract 0 p++b.extract 0 q++o.reverse).toList:=by rw[K2,K2,b_,b_,Mi];subst hq;unfold MJa at h;rw[NU]at h ⊢;rw[K4];exact h.uM
theorem sU{o:Array Keyed}(hb:1<=b.size)(first:∀y∈a.toList,le κ (b[0]'(by omega)) y)(h:MJa κ a b o p q)(hq:q=1):Done κ (a.toList++b.toList) (b.extract 0 q++a.extract 0 p++o.reverse).toList:=by rw[K2,K2,b_,b_,Mi];refine MJ.wV h fun x hx y hy=>?_;subst hq;rw[show 1=0+1 from rfl,jz (by lia),NU,LK,KS]at hx;subst hx;exact first y (M9 hy)
theorem B8{o:Array Keyed}(hq:q<b.size)(h:MJa κ a b o p (q+1))(hl:∀x∈a.toList.take p,le κ x b[q]):MJa κ a b (o.push b[q]) p q:=by unfold MJa at h ⊢;rw[Mv,Mn,List.reverse_singleton];rw[jz hq]at h;exact MJ.EU h fun x hx y hy=>by rw[KS]at hy;subst hy;exact hl x hx
theorem wY{o:Array Keyed}(hp:p<a.size)(h:MJa κ a b o (p+1) q)(hl:∀x∈b.toList.take q,le κ x a[p]):MJa κ a b (o.push a[p]) p q:=by unfold MJa at h ⊢;rw[Mv,Mn,List.reverse_singleton];rw[jz hp]at h;exact MJ.EV h fun x hx y hy=>by rw[KS]at hy;subst hy;exact hl x hx
theorem jA{x:Array Keyed}{p:Nat}(h:p<x.size)(hs:(x.toList.take (p+1)).Pairwise (le κ)):∀y∈x.toList.take (p+1),le κ y x[p]:=fun y hy=>by
 rw[jz h]at hs hy;rcases K3.mp hy with hy | hy
 ·exact(La.mp hs).2.2 y hy _ (KS.mpr rfl)
 ·rw[KS]at hy;subst hy;exact le_refl _
theorem pQ{x:Array Keyed}(hk:KeysOf κ x)(h:x.toList.Pairwise (le κ)){p:Nat}(hp:p<=x.size):Seg κ x 0 (0+p):=fun i j h1 h2 h3=>wW hk h i j (by lia) h2 (by lia)
noncomputable abbrev Aa:=Option (Array Keyed)×Nat×Nat×Array Keyed×Nat×Nat×Nat
noncomputable def hA(a b o:Array Keyed)(p q g ca k:Nat):StateT SortSt Sem (ForInStep Aa):=do
 let z <- elem' a (p-1)
 if p-1 == 0 then pure (Lj (some (a.extract 0 (p-1)++b.extract 0 q++(o.push z).reverse),p-1,q,o.push z,g,ca,k))
 else if ca<7&&k<7 then pure (Lj (none,p-1,q,o.push z,g,ca,k))
 else pure (LJ (none,p-1,q,o.push z,g,ca,k))
noncomputable def hB(a b o:Array Keyed)(p q g ca cb:Nat):StateT SortSt Sem (ForInStep Aa):=do
 let z <- elem' b (q-1)
 if q-1 == 1 then pure (Lj (some (b.extract 0 (q-1)++a.extract 0 p++(o.push z).reverse),p,q-1,o.push z,g,ca,cb))
 else do
  let y <- elem' a (p-1)
  let r <- jm true y b 0 (q-1) (q-1-1)
  match r with
   |some m=>
    if q-1-m>0 then
     if m == 1 then pure (Lj (some (b.extract 0 m++a.extract 0 p++(o.push z++(b.extract m (q-1)).reverse).reverse),p,m,o.push z++(b.extract m (q-1)).reverse,g,ca,q-1-m))
     else if m == 0 then pure (Lj (some (a.extract 0 p++b.extract 0 m++(o.push z++(b.extract m (q-1)).reverse).reverse),p,m,o.push z++(b.extract m (q-1)).reverse,g,ca,q-1-m))
     else hA a b (o.push z++(b.extract m (q-1)).reverse) p m g ca (q-1-m)
    else hA a b (o.push z) p (q-1) g ca (q-1-m)
   |x=>pure (Lj (some (a.extract 0 p++b.extract 0 (q-1)++(o.push z).reverse),p,q-1,o.push z,g,ca,cb))
noncomputable def hC(a b o:Array Keyed)(p q g ca cb:Nat):StateT SortSt Sem (ForInStep Aa):=do
 lE g
 let z <- elem' b (q-1)
 let r <- jm false z a 0 p (p-1)
 match r with
  |some m=>
   if p-m>0 then
    if m == 0 then pure (Lj (some (a.extract 0 m++b.extract 0 q++(o++(a.extract m p).reverse).reverse),m,q,o++(a.extract m p).reverse,g,p-m,cb))
    else hB a b (o++(a.extract m p).reverse) m q g (p-m) cb
   else hB a b o p q g (p-m) cb
  |x=>pure (Lj (some (a.extract 0 p++b.extract 0 q++o.reverse),p,q,o,g,ca,cb))
def sV(κ:KeyKind)(a b:Array Keyed)(N:Nat)(st:SortSt)(r:ForInStep Aa)(st':SortSt):Prop:=(∃g',st'=setG st g')/\match r with
 |.done c=>(∃r z,c=(some r,z)/\Done κ (a.toList++b.toList) r.toList)\/∃o p q g ca cb,c=(none,p,q,o,g,ca,cb)/\IJ κ a b o p q/\N<=o.size
 |.yield c=>∃o p q g ca cb,c=(none,p,q,o,g,ca,cb)/\IJ κ a b o p q/\N<=o.size
theorem B9{M:Model}{o:Array Keyed}{p q g ca k N:Nat}{st st':SortSt}(hs:∃g',st'=setG st g')(hp:1<=p)(hp2:p<=a.size)(hq:2<=q)(hq2:q<=b.size)
  (mj:MJa κ a b o p q) (hl:∀x∈b.toList.take q,le κ x (a[p-1]'(by omega))) (hN:N<=o.size):wpS M A E s (hA a b o p q g ca k) (sV κ a b N st) st':=by
 obtain⟨p,rfl⟩:∃p',p=p'+1:=⟨p-1,by lia⟩
 unfold hA;rw[Nm];rw[bx (a:=a) (i:=p) (by lia)];refine wpS_bind (wpS_pure ?_);have mj2:=wY (by lia) mj hl;by_cases h1:p=0
 ·rw[if_pos (by simpa using h1)];exact wpS_pure ⟨hs,.inl ⟨_,_,rfl,nU mj2 h1⟩⟩
 ·rw[if_neg (by simpa using h1)];have ij:IJ κ a b (o.push (a[p]'(by lia))) p q:=⟨by lia,by lia,hq,hq2,mj2⟩
  split
  ·exact wpS_pure ⟨hs,.inr ⟨_,_,_,_,_,_,rfl,ij,by rw[Lb];lia⟩⟩
  ·exact wpS_pure ⟨hs,⟨_,_,_,_,_,_,rfl,ij,by rw[Lb];lia⟩⟩
theorem B_{M:Model}(hL:cW M A E s κ kd)(ka:KeysOf κ a)(kb:KeysOf κ b)(sb:b.toList.Pairwise (le κ)){o:Array Keyed}{p q g ca cb N:Nat}{st st':SortSt}(hb:1<=b.size)(first:∀y∈a.toList,le κ (b[0]'(by omega)) y)(hd:kindOf st=kd)(hs:∃g',st'=setG st g')(hp:1<=p)(hp2:p<=a.size)(hq:2<=q)(hq2:q<=b.size)
  (mj:MJa κ a b o p q) (hl:∀x∈a.toList.take p,le κ x (b[q-1]'(by omega))) (hN:N<=o.size):wpS M A E s (hB a b o p q g ca cb) (sV κ a b N st) st':=by
 obtain⟨q,rfl⟩:∃q',q=q'+1:=⟨q-1,by lia⟩
 unfold hB;rw[Nm];rw[bx (a:=b) (i:=q) (by lia)];refine wpS_bind (wpS_pure ?_);have mj2:=B8 (by lia) mj hl;by_cases h1:q=1
 ·rw[if_pos (by simpa using h1)];exact wpS_pure ⟨hs,.inl ⟨_,_,rfl,sU hb first mj2 h1⟩⟩
 rw[if_neg (by simpa using h1),bx (a:=a) (i:=p-1) (by lia)];refine wpS_bind (wpS_pure ?_);obtain⟨g',rfl⟩:=hs;refine wpS_bind (iW (b:=0) (n:=q) (hint:=q-1) hL (aU ka (i:=p-1) (by lia)).1 kb (by lia) (by lia) (pQ kb sb (by lia)) (st:=setG st g') hd fun m hm h2 h3=>?_)
 try dsimp only
 have JM:∀x∈a.toList.take p,le κ x (a[p-1]'(by omega)):=by
  have:=jA (κ:=κ) (x:=a) (p:=p-1) (by lia) (by rw[show p-1+1=p by lia];exact mj.sA)
  rwa [show p-1+1=p by lia]at this
 have le1:∀x∈a.toList.take p,∀y∈(b.extract m q).toList,le κ x y:=fun x hx y hy=>by obtain⟨n,hn,hn2,rfl⟩:=bz (x:=b) (i:=m) (k:=q-m) (by rw[show m+(q-m)=q by lia];exact hy);have:=h3 (m+n) (by lia) (by lia);unfold pass at this;rw[if_pos rfl,My,(aU kb hn2).2]at this;exact le_trans (JM x hx) this
 have le2:∀x∈b.toList.take m,le κ x (a[p-1]'(by lia)):=fun x hx=>by rw[<- b_]at hx;obtain⟨n,hn,hn2,rfl⟩:=bz (x:=b) (i:=0) (k:=m) (by rw[My];exact hx);have:=h2 n hn;unfold pass at this;rw[if_pos rfl,(aU kb hn2).2]at this;exact Lo this
 by_cases hk0:q-m>0
 ·rw[if_pos hk0];have mj3:MJa κ a b (o.push (b[q]'(by lia))++(b.extract m q).reverse) p m:=by
   unfold MJa at mj2 ⊢;rw[K2,Mi,Mn,MD];rw[pP (z:=m) (p:=q) (by lia)]at mj2;exact MJ.EU mj2 le1
  by_cases h4:m=1
  ·rw[if_pos (by simpa using h4)];exact wpS_pure ⟨⟨_,rfl⟩,.inl ⟨_,_,rfl,sU hb first mj3 h4⟩⟩
  rw[if_neg (by simpa using h4)];by_cases h5:m=0
  ·rw[if_pos (by simpa using h5)];exact wpS_pure ⟨⟨_,rfl⟩,.inl ⟨_,_,rfl,EW mj3 h5⟩⟩
  rw[if_neg (by simpa using h5)];exact B9 ⟨_,rfl⟩ hp hp2 (by lia) (by lia) mj3 le2 (by rw[MQ,Lb];lia)
 ·rw[if_neg hk0];have:m=q:=by lia
  subst this;exact B9 ⟨_,rfl⟩ hp hp2 (by lia) (by lia) mj2 le2 (by rw[Lb];lia)
theorem HG{M:Model}(hL:cW M A E s κ kd)(ka:KeysOf κ a)(kb:KeysOf κ b)(sa:a.toList.Pairwise (le κ))(sb:b.toList.Pairwise (le κ)){o:Array Keyed}{p q g ca cb N:Nat}{st st':SortSt}(hb:1<=b.size)(first:∀y∈a.toList,le κ (b[0]'(by omega)) y)(hd:kindOf st=kd)(hs:∃g',st'=setG st g')
  (ij:IJ κ a b o p q) (hN:N<=o.size):wpS M A E s (hC a b o p q g ca cb) (sV κ a b N st) st':=by
 obtain⟨hp,hp2,hq,hq2,mj⟩:=ij;obtain⟨g',rfl⟩:=hs;unfold hC;refine wpS_bind ?_;unfold lE;refine wpS_modify ?_;rw[bx (a:=b) (i:=q-1) (by lia)];refine wpS_bind (wpS_pure ?_);refine wpS_bind (iW (b:=0) (n:=p) (hint:=p-1) hL (aU kb (i:=q-1) (by lia)).1 ka (by lia) (by lia) (pQ ka sa (by lia)) (st:=setG st g) hd fun m hm h2 h3=>?_)
 try dsimp only
 have JN:∀x∈b.toList.take q,le κ x (b[q-1]'(by omega)):=by
  have:=jA (κ:=κ) (x:=b) (p:=q-1) (by lia) (by rw[show q-1+1=q by lia];exact mj.sB)
  rwa [show q-1+1=q by lia]at this
 have le1:∀x∈b.toList.take q,∀y∈(a.extract m p).toList,le κ x y:=fun x hx y hy=>by
  obtain⟨n,hn,hn2,rfl⟩:=bz (x:=a) (i:=m) (k:=p-m) (by rw[show m+(p-m)=p by lia];exact hy);have:=h3 (m+n) (by lia) (by lia);unfold pass at this;rw[if_neg (by decide),My,(aU ka hn2).2]at this;have dD:κ.blt (kp κ (b[q-1]'(by lia))) (kp κ a[m+n])=true:=by simpa using this
  exact le_trans (JN x hx) (Lo dD)
 have le2:∀x∈a.toList.take m,le κ x (b[q-1]'(by lia)):=fun x hx=>by
  rw[<- b_]at hx;obtain⟨n,hn,hn2,rfl⟩:=bz (x:=a) (i:=0) (k:=m) (by rw[My];exact hx);have:=h2 n hn;unfold pass at this;rw[if_neg (by decide),(aU ka hn2).2]at this;have dD:κ.blt (kp κ (b[q-1]'(by lia))) (kp κ a[0+n])=false:=by simpa using this
  exact dD
 by_cases hk0:p-m>0
 ·rw[if_pos hk0];have mj3:MJa κ a b (o++(a.extract m p).reverse) m q:=by
   unfold MJa at mj ⊢;rw[K2,Mi,Mn,MD];rw[pP (z:=m) (p:=p) (by lia)]at mj;exact MJ.EV mj le1
  by_cases h5:m=0
  ·rw[if_pos (by simpa using h5)];exact wpS_pure ⟨⟨_,rfl⟩,.inl ⟨_,_,rfl,nU mj3 h5⟩⟩
  rw[if_neg (by simpa using h5)];exact B_ hL ka kb sb hb first hd ⟨_,rfl⟩ (by lia) (by lia) hq hq2 mj3 le2 (by rw[MQ];lia)
 ·rw[if_neg hk0];have:m=p:=by lia
  subst this;exact B_ hL ka kb sb hb first hd ⟨_,rfl⟩ hp hp2 hq hq2 mj le2 hN
theorem EX(hL:cW (model prog w) A E s κ kd)(ka:KeysOf κ a)(kb:KeysOf κ b)(sa:a.toList.Pairwise (le κ))(sb:b.toList.Pairwise (le κ))(ha:1<=a.size)(hb:1<=b.size)
  (first:∀y∈a.toList,le κ (b[0]'(by omega)) y) (last:∀y∈b.toList,le κ y (a[a.size-1]'(by omega))) {st:SortSt} (hd:kindOf st=kd) {Q:Array Keyed->SortSt->Prop}
  (h:∀r g,Done κ (a.toList++b.toList) r.toList->Q r (setG st g)):wpS (model prog w) A E s (EL a b) Q st:=by
 rw[ET];refine wpS_bind (wpS_lift (wpAny_rule ⟨rfl,?_⟩))
 try dsimp only
 rw[bx (a:=a) (i:=a.size-1) (by lia)];refine wpS_bind (wpS_pure ?_)
 try dsimp only
 have m0:MJa κ a b #[] (a.size-1+1) b.size:=⟨by simp,by simp,by simp,by rw [show a.size-1+1=a.size by lia,LG (by simp)];exact sa,by rw [LG (by simp)];exact sb,by rw[show a.size-1+1=a.size by lia,LG (by simp),LG (by simp)];simp⟩
 have m1:MJa κ a b #[a[a.size-1]'(by lia)] (a.size-1) b.size:=wY (o:=#[]) (by lia) m0 fun x hx=>last x (M9 hx);have same:setG st (gallopOf st)=st:=rfl;by_cases ha1:a.size-1=0
 ·rw[if_pos (by simpa using ha1)];exact wpS_pure (same▸h _ (gallopOf st) (nU m1 ha1))
 rw[if_neg (by simpa using ha1)];by_cases hb1:b.size=1
 ·rw[if_pos (by simpa using hb1)];exact wpS_pure (same▸h _ (gallopOf st) (sU hb first m1 hb1))
 rw[if_neg (by simpa using hb1)];refine wpS_bind (wpS_get ?_)
 try dsimp only
 have len:∀{o:Array Keyed} {p q:Nat},IJ κ a b o p q->o.size<a.size+b.size:=fun {o p q} ⟨h1,h2,h3,h4,h5⟩=>by
  have:=h5.pm.length_eq;simp only[KL,KR,Lh,LH]at this
  lia
 refine wpS_bind (wpS_mono (wpS_forRange (I:=fun x c st'=>∃ o p q g,c=(none,p,q,o,g)∧(∃ g',st'=setG st g')∧IJ κ a b o p q∧x+1≤o.size)
  (Q:=fun c st'=>∃r z,c=(some r,z)/\(∃g',st'=setG st g')/\Done κ (a.toList++b.toList) r.toList) ?st1 ?fi1 ⟨_,a.size-1,b.size,_,rfl,⟨gallopOf st,rfl⟩,⟨by lia,by lia,by lia,by lia,m1⟩,by simp⟩) ?po1)
 case fi1=>
  rintro c st' ⟨o,p,q,g,rfl,_,ij,hsz⟩;have:=len ij
  lia
 case po1=>rintro c st' ⟨r,z,rfl,⟨g',rfl⟩,hdn⟩;exact wpS_pure (h r g' hdn)
 case st1=>
  rintro x c st' _ hx ⟨o,p,q,g,rfl,⟨g',rfl⟩,ij,hsz⟩
  try dsimp only
  refine wpS_bind (wpS_mono (wpS_forRange (I:=fun y c st''=>∃ o' p' q' ca cb,c=(none,p',q',o',ca,cb)∧st''=setG st g'∧IJ κ a b o' p' q'∧o.size+y≤o'.size)
   (Q:=fun c st''=>st''=setG st g'/\((∃r z,c=(some r,z)/\Done κ (a.toList++b.toList) r.toList)\/∃o' p' q' ca cb,c=(none,p',q',o',ca,cb)/\IJ κ a b o' p' q'/\o.size+1<=o'.size)) ?st2 ?fi2 ⟨o,p,q,0,0,rfl,rfl,ij,by lia⟩) ?po2)
  case fi2=>rintro c st'' ⟨o',p',q',ca,cb,rfl,rfl,ij',hs'⟩;exact⟨rfl,.inr ⟨o',p',q',ca,cb,rfl,ij',by lia⟩⟩
  case st2=>
   rintro y c st'' _ hy ⟨o',p',q',ca,cb,rfl,rfl,⟨hp1,hp2,hq1,hq2,mj⟩,hs'⟩
   try dsimp only
   obtain⟨p',rfl⟩:∃z,p'=z+1:=⟨p'-1,by lia⟩
   obtain⟨q',rfl⟩:∃z,q'=z+1:=⟨q'-1,by lia⟩
   simp only[Nm];rw[bx (a:=b) (i:=q') (by lia),bx (a:=a) (i:=p') (by lia)];refine wpS_bind (wpS_pure (wpS_bind (wpS_pure ?_)));obtain⟨kb1,_⟩:=aU kb (i:=q') (by lia);obtain⟨ka1,_⟩:=aU ka (i:=p') (by lia);refine wpS_bind (hL _ _ _ _ _ _ kb1 ka1 hd ?_)
   try dsimp only
   cases hw:κ.blt (kp κ (b[q']'(by lia))) (kp κ (a[p']'(by lia)))
   case true=>
    rw[if_pos rfl];refine wpS_bind (wpS_pure ?_)
    try dsimp only
    have mj2:=wY (by lia) mj fun x hx=>le_trans (jA (by lia) mj.sB x hx) (Lo hw);by_cases hpb:p'=0
    ·rw[if_pos (by simpa using hpb)];exact wpS_pure ⟨rfl,.inl ⟨_,_,rfl,nU mj2 hpb⟩⟩
    rw[if_neg (by simpa using hpb)];by_cases hg:ca+1≥g
    ·rw[if_pos hg];exact wpS_pure ⟨rfl,.inr ⟨_,_,_,_,_,rfl,⟨by lia,by lia,by lia,by lia,mj2⟩,by rw[Lb];lia⟩⟩
    ·rw[if_neg hg];exact wpS_pure ⟨_,_,_,_,_,rfl,rfl,⟨by lia,by lia,by lia,by lia,mj2⟩,by rw[Lb];lia⟩
   case false=>
    rw[if_neg (by decide)];refine wpS_bind (wpS_pure ?_)
    try dsimp only
    have mj2:=B8 (by lia) mj fun x hx=>le_trans (jA (by lia) mj.sA x hx) hw;by_cases hqb:q'=1
    ·rw[if_pos (by simpa using hqb)];exact wpS_pure ⟨rfl,.inl ⟨_,_,rfl,sU hb first mj2 hqb⟩⟩
    rw[if_neg (by simpa using hqb)];by_cases hg:cb+1≥g
    ·rw[if_pos hg];exact wpS_pure ⟨rfl,.inr ⟨_,_,_,_,_,rfl,⟨by lia,by lia,by lia,by lia,mj2⟩,by rw[Lb];lia⟩⟩
    ·rw[if_neg hg];exact wpS_pure ⟨_,_,_,_,_,rfl,rfl,⟨by lia,by lia,by lia,by lia,mj2⟩,by rw[Lb];lia⟩
  case po2=>
   rintro c st'' ⟨rfl,⟨r,z,rfl,hdn⟩ | ⟨o',p',q',ca,cb,rfl,ij',hs'⟩⟩
   ·try dsimp only
    exact wpS_pure ⟨r,_,rfl,⟨_,rfl⟩,hdn⟩
   try dsimp only
   refine wpS_bind (wpS_lift (wpAny_rule ⟨rfl,?_⟩));refine wpS_bind (wpS_mono (wpS_forRange (I:=fun y c st''=>∃ o2 p2 q2 g2 ca cb,c=(none,p2,q2,o2,g2,ca,cb)∧(∃ g',st''=setG st g')∧IJ κ a b o2 p2 q2∧o.size+1≤o2.size)
    (Q:=fun c st''=>(∃g',st''=setG st g')/\((∃r z,c=(some r,z)/\Done κ (a.toList++b.toList) r.toList)\/∃o2 p2 q2 g2 ca cb,c=(none,p2,q2,o2,g2,ca,cb)/\IJ κ a b o2 p2 q2/\o.size+1<=o2.size)) ?st3 ?fi3 ⟨o',p',q',_,_,_,rfl,⟨_,rfl⟩,ij',hs'⟩) ?po3)
   case fi3=>rintro c st'' ⟨o2,p2,q2,g2,ca,cb,rfl,hg,ij2,hs2⟩;exact⟨hg,.inr ⟨o2,p2,q2,g2,ca,cb,rfl,ij2,hs2⟩⟩
   case po3=>
    rintro c st'' ⟨⟨g3,rfl⟩,⟨r,z,rfl,hdn⟩ | ⟨o2,p2,q2,g2,ca,cb,rfl,ij2,hs2⟩⟩
    ·try dsimp only
     exact wpS_pure ⟨r,_,rfl,⟨_,rfl⟩,hdn⟩
    ·try dsimp only
     refine wpS_bind ?_;unfold lE;exact wpS_modify (wpS_pure ⟨o2,p2,q2,_,rfl,⟨_,rfl⟩,ij2,by lia⟩)
   case st3=>
    rintro y c st'' _ hy ⟨o2,p2,q2,g2,ca,cb,rfl,⟨g3,rfl⟩,ij2,hs2⟩;show wpS _ _ _ _ (if g2>1 then hC a b o2 p2 q2 (g2-1) ca cb else hC a b o2 p2 q2 g2 ca cb) _ _;have Cq:∀g,wpS (model prog w) A E s (hC a b o2 p2 q2 g ca cb) (sV κ a b (o.size+1) st) (setG st g3):=fun g=>HG hL ka kb sa sb hb first hd ⟨_,rfl⟩ ij2 hs2
    split
    all_goals
     refine wpS_mono (Cq _) fun r st' hG=>?_;cases r with
     |done c=>exact hG
     |yield c=>obtain⟨hg,o,i,j,g,ca,cb,e,im,hz⟩:=hG;exact⟨o,i,j,g,ca,cb,e,hg,im,hz⟩
end
end
end Ts
namespace Ts
open PySem PyProof.Rows
variable{A:Around}{E:Value->Shared->Prop}{s:Shared}{κ:KeyKind}{kd:SortKind}{a₀:Array Keyed}{prog:Program}{w:World}
theorem ext_get{xs:Array Keyed}{i j n:Nat}(hj:j<=xs.size)(h:n<(xs.extract i j).toList.length):∃hn:i+n<xs.size,i+n<j/\(xs.extract i j).toList[n]=xs[i+n]:=by rw[KR,Ms]at h;refine⟨by lia,by lia,?_⟩;simp
theorem cY{xs:Array Keyed}(hk:KeysOf κ xs){i j:Nat}(hj:j<=xs.size):Seg κ xs i j↔(xs.extract i j).toList.Pairwise (le κ):=by
 rw[MF];constructor
 ·intro h p q hp hq hpq;obtain⟨p1,p2,ep⟩:=ext_get hj hp;obtain⟨q1,q2,eq⟩:=ext_get hj hq;rw[ep,eq];have:=h (i+p) (i+q) (by lia) (by lia) q2;rw[(aU hk p1).2,(aU hk q1).2]at this;exact this
 ·intro h p q h1 h2 h3;by_cases e:p=q
  ·subst e;exact LB _
  have hl:(xs.extract i j).toList.length=j-i:=by rw[KR,Ms];lia
  obtain⟨p1,p2,ep⟩:=ext_get (i:=i) (n:=p-i) hj (by lia);obtain⟨q1,q2,eq⟩:=ext_get (i:=i) (n:=q-i) hj (by lia);have:=h (p-i) (q-i) (by lia) (by lia) (by lia);rw[ep,eq]at this;have e1:KK κ xs p=kp κ (xs[i+(p-i)]):=(congrArg (KK κ xs) (show p=i+(p-i) by lia)).trans (aU hk p1).2;have e2:KK κ xs q=kp κ (xs[i+(q-i)]):=(congrArg (KK κ xs) (show q=i+(q-i) by lia)).trans (aU hk q1).2;rw[e1,e2];exact this
noncomputable def wr(m:List Keyed)(n b:Nat)(xs:Array Keyed):Array Keyed:=(m.zipIdx n).foldl (fun a (p,j)=>a.setIfInBounds (b+j) p) xs
theorem sW:∀(m:List Keyed) (n b:Nat) (xs:Array Keyed),(wr m n b xs).size=xs.size
 |[],n,b,xs=>rfl
 |p::m,n,b,xs=>by show (wr m (n+1) b (xs.setIfInBounds (b+n) p)).size=_;rw[sW m];simp
theorem sX:∀(m:List Keyed) (n b:Nat) (xs:Array Keyed),b+n+m.length<=xs.size->(wr m n b xs).toList=xs.toList.take (b+n)++m++xs.toList.drop (b+n+m.length)
 |[],n,b,xs,h=>by show xs.toList=_;simp
 |p::m,n,b,xs,h=>by
  rw[Li]at h;show (wr m (n+1) b (xs.setIfInBounds (b+n) p)).toList=_;rw[sX m (n+1) b _ (by simp;lia),Array.toList_setIfInBounds];rw[show b+(n+1)=b+n+1 by lia,List.take_succ,KW (by simp;lia),List.take_set_of_le (by lia),List.drop_set_of_lt (by lia)];simp
  lia
theorem EY(xs:Array Keyed){i j:Nat}(h:i<=j)(hj:j<=xs.size):xs.toList=xs.toList.take i++((xs.extract i j).toList++xs.toList.drop j):=by
 have h1:=Mg i xs.toList;have h2:xs.toList.drop i=(xs.extract i j).toList++xs.toList.drop j:=by
  have:=cX (a:=xs) (i:=i) (k:=j-i)
  rwa [show i+(j-i)=j by lia]at this
 rw[<- h2,h1]
theorem g7(xs:Array Keyed){i j k:Nat}(h:i<=j)(h2:j<=k)(hk:k<=xs.size):(xs.extract i k).toList=(xs.extract i j).toList++(xs.extract j k).toList:=by simp only[LP,Ly];have:=Mg (j-i) ((xs.toList.drop i).take (k-i));rw[List.take_take,List.drop_take,List.drop_drop]at this;rw[show min (j-i) (k-i)=j-i by lia,show k-i-(j-i)=k-j by lia,show i+(j-i)=j by lia]at this;exact this.symm
theorem HH(i:Nat):mergeAt' i=(do
  let st <- get
  let (some (u,m,c),some (v,n,_)):=((pendingOf st)[i]?,(pendingOf st)[i+1]?)
   |unsupported "internal:list.sort.pending"
  set (setPending st (((pendingOf st).setIfInBounds i (u,m+n,c)).eraseIdxIfInBounds (i+1)))
  let some k <- jm false (<- elem' (arrOf st) v) (arrOf st) u m 0
   |return false
  let (u,m):=(u+k,m-k)
  if m == 0 then return true
  let some n <- jm true (<- elem' (arrOf st) (u+m-1)) (arrOf st) v n (n-1)
   |return false
  if n == 0 then return true
  let x:=(arrOf st).extract u v
  let y:=(arrOf st).extract v (v+n)
  let z <- if m<=n then EK x y
   else EL x y
  modify fun st=>setArr st (z.toList.zipIdx.foldl (fun a (p,j)=>a.setIfInBounds (u+j) p) (arrOf st))
  return (failedOf (<- get)).isNone):=rfl
theorem pR{xs:Array Keyed}(hk:KeysOf κ xs)(i j:Nat):KeysOf κ (xs.extract i j):=fun p hp=>hk p (by rw[LP,Ly]at hp;exact List.mem_of_mem_drop (M9 hp))
theorem HJ(hL:cW (model prog w) A E s κ kd)(h0:KeysOf κ a₀){st:SortSt}(hB:SB kd a₀ st){i u m c n c':Nat}(hp1:(pendingOf st)[i]?=some (u,m,c))(hp2:(pendingOf st)[i+1]?=some (u+m,n,c'))(hm:1<=m)(hn:1<=n)(hsz:u+m+n<=a₀.size)
  (s1:Seg κ (arrOf st) u (u+m)) (s2:Seg κ (arrOf st) (u+m) (u+m+n)) {Q:Bool->SortSt->Prop}
  (h:∀xs g,xs.Perm (arrOf st)->Seg κ xs u (u+m+n)->Out (arrOf st) xs u (u+m+n)->Q true (setG (setArr (setPending st (((pendingOf st).setIfInBounds i (u,m+n,c)).eraseIdxIfInBounds (i+1))) xs) g)):wpS (model prog w) A E s (mergeAt' i) Q st:=by
 have hk:=hB.keys h0;have hA:(arrOf st).size=a₀.size:=hB.size;rw[HH];refine wpS_bind (wpS_get ?_)
 try dsimp only
 rw[hp1,hp2]
 try dsimp only
 refine wpS_bind ?_;show wpS _ _ _ _ (set _) _ _
 generalize hP:((pendingOf st).setIfInBounds i (u,m+n,c)).eraseIdxIfInBounds (i+1)=P at h ⊢
 refine (show ∀ {R:PUnit→SortSt→Prop},R ⟨⟩ (setPending st P)→wpS (model prog w) A E s (set (setPending st P):StateT SortSt Sem PUnit) R st from fun {R} hR=>by unfold wpS;exact wpAny_pure ⟨rfl,hR⟩) ?_
 generalize hxs:arrOf st=xs at *
 rw[bx (a:=xs) (i:=u+m) (by lia)];refine wpS_bind (wpS_pure ?_);refine wpS_bind (iW (b:=u) (n:=m) (hint:=0) hL (aU hk (i:=u+m) (by lia)).1 hk (by lia) (by lia) s1 (st:=setPending st P) hB.kind fun k hkm h1 h2=>?_)
 try dsimp only
 have low:∀q,q<k->κ.kle (KK κ xs (u+q)) (KK κ xs (u+m)):=fun q hq=>by
  have:=h1 q hq;unfold pass at this;rw[if_neg (by decide),<- (aU hk (i:=u+m) (by lia)).2]at this;have dD:κ.blt (KK κ xs (u+m)) (KK κ xs (u+q))=false:=by simpa using this
  exact dD
 by_cases hk0:m-k=0
 ·rw[if_pos (by simpa using hk0)];have km:k=m:=by lia
  subst km;refine wpS_pure ?_;have:=h xs (gallopOf st) (Array.Perm.refl _) (fun p q hp hpq hq=>?_) (Out.refl _ _ _)
  ·rw[<- hxs]at this;exact this
  ·by_cases hq1:q<u+k
   ·exact s1 p q hp hpq hq1
   ·by_cases hp1:u+k<=p
    ·exact s2 p q hp1 hpq hq
    ·have:=low (p-u) (by lia);rw[show u+(p-u)=p by lia]at this;exact LN this (s2 _ q (by lia) (by lia) hq)
 rw[if_neg (by simpa using hk0)];rw[bx (a:=xs) (i:=u+k+(m-k)-1) (by lia)];refine wpS_bind (wpS_pure ?_);refine wpS_bind (iW (b:=u+m) (n:=n) (hint:=n-1) hL (aU hk (i:=u+k+(m-k)-1) (by lia)).1 hk (by lia) (by lia) s2 (st:=setPending st P) hB.kind fun n' hn' h3 h4=>?_)
 try dsimp only
 have hi:∀q,n'<=q->q<n->κ.kle (KK κ xs (u+m-1)) (KK κ xs (u+m+q)):=fun q hq hq2=>by have:=h4 q hq hq2;unfold pass at this;rw[if_pos rfl,<- (aU hk (i:=u+k+(m-k)-1) (by lia)).2]at this;rw[show u+k+(m-k)-1=u+m-1 by lia]at this;exact this
 have lo2:∀q,q<n'->κ.kle (KK κ xs (u+m+q)) (KK κ xs (u+m-1)):=fun q hq=>by have:=h3 q hq;unfold pass at this;rw[if_pos rfl,<- (aU hk (i:=u+k+(m-k)-1) (by lia)).2]at this;rw[show u+k+(m-k)-1=u+m-1 by lia]at this;exact Lo this
 by_cases hn0:n'=0
 ·rw[if_pos (by simpa using hn0)];refine wpS_pure ?_;have:=h xs (gallopOf st) (Array.Perm.refl _) (fun p q hp hpq hq=>?_) (Out.refl _ _ _)
  ·rw[<- hxs]at this;exact this
  ·by_cases hq1:q<u+m
   ·exact s1 p q hp hpq hq1
   ·by_cases hp1:u+m<=p
    ·exact s2 p q hp1 hpq hq
    ·have:=hi (q-(u+m)) (by lia) (by lia);rw[show u+m+(q-(u+m))=q by lia]at this;exact LN (s1 p (u+m-1) hp (by lia) (by lia)) this
 rw[if_neg (by simpa using hn0)];have kx:=pR hk (u+k) (u+m);have ky:=pR hk (u+m) (u+m+n');have sx:(xs.extract (u+k) (u+m)).toList.Pairwise (le κ):=(cY hk (by lia)).mp fun p q a b c=>s1 p q (by lia) b c;have sy:(xs.extract (u+m) (u+m+n')).toList.Pairwise (le κ):=(cY hk (by lia)).mp fun p q a b c=>s2 p q a b (by lia);have zx:(xs.extract (u+k) (u+m)).size=m-k:=by rw[Ms];lia
 have zy:(xs.extract (u+m) (u+m+n')).size=n':=by rw[Ms];lia
 have y0:(xs.extract (u+m) (u+m+n'))[0]'(by lia)=xs[u+m]'(by omega):=by simp
 have xl:(xs.extract (u+k) (u+m))[(xs.extract (u+k) (u+m)).size-1]'(by lia)=xs[u+m-1]'(by lia):=by
  simp only[Array.getElem_extract]
  congr 1
  rw[zx];lia
 have first:∀y∈(xs.extract (u+k) (u+m)).toList,le κ ((xs.extract (u+m) (u+m+n'))[0]'(by lia)) y:=fun y hy=>by
  obtain⟨q,hq,hq2,rfl⟩:=bz (x:=xs) (i:=u+k) (k:=m-k) (by rw[show u+k+(m-k)=u+m by lia];exact hy);rw[y0];have:=h2 (k+q) (by lia) (by lia);unfold pass at this;rw[if_neg (by decide)]at this;have dD:κ.blt (kp κ (xs[u+m]'(by lia))) (KK κ xs (u+(k+q)))=true:=by simpa using this
  rw[show u+(k+q)=u+k+q by lia,(aU hk hq2).2]at dD;exact Lo dD
 have last:∀y∈(xs.extract (u+m) (u+m+n')).toList,le κ y ((xs.extract (u+k) (u+m))[(xs.extract (u+k) (u+m)).size-1]'(by lia)):=fun y hy=>by obtain⟨q,hq,hq2,rfl⟩:=bz (x:=xs) (i:=u+m) (k:=n') hy;rw[xl];have:=lo2 q hq;rw[(aU hk hq2).2,(aU hk (i:=u+m-1) (by lia)).2]at this;exact this
 have Cq:∀(r:Array Keyed) (g:Nat),Done κ ((xs.extract (u+k) (u+m)).toList++(xs.extract (u+m) (u+m+n')).toList) r.toList ->
   wpS (model prog w) A E s ((modify fun st=>setArr st (r.toList.zipIdx.foldl (fun a (p,j)=>a.setIfInBounds (u+k+j) p) (arrOf st))) >>= fun _=>get >>= fun st=>pure (failedOf st).isNone) Q (setG (setPending st P) g):=fun r g ⟨rp,rs⟩=>by
  refine wpS_bind (wpS_modify ?_);refine wpS_bind (wpS_get ?_);refine wpS_pure ?_;have rl:r.toList.length=m-k+n':=by have:=rp.length_eq;simp only[KL,KR,zx,zy]at this ⊢;exact this
  have rl2:r.size=m-k+n':=by rw[<- KR];exact rl
  have wl:(wr r.toList 0 (u+k) xs).toList=xs.toList.take (u+k)++(r.toList++xs.toList.drop (u+m+n')):=by rw[sX r.toList 0 (u+k) xs (by lia),Nat.add_zero,rl,show u+k+(m-k+n')=u+m+n' by lia,Ln]
  have Ca:(wr r.toList 0 (u+k) xs).Perm xs:=by
   rw[LV,wl];have e:=EY xs (i:=u+k) (j:=u+m+n') (by lia) (by lia);rw[g7 xs (i:=u+k) (j:=u+m) (k:=u+m+n') (by lia) (by lia) (by lia)]at e
   conv=>rhs;rw[e]
   exact M3.append_left _ (M3.append_right _ rp)
  have wz:(wr r.toList 0 (u+k) xs).size=xs.size:=sW _ _ _ _;have wk:KeysOf κ (wr r.toList 0 (u+k) xs):=fun p hp=>hk p ((LV.mp Ca).mem_iff.mp hp);have HK:Out xs (wr r.toList 0 (u+k) xs) (u+k) (u+m+n'):=fun q hq=>by
   rw[<- LL,<- LL,wl];rcases hq with hq | hq
   ·rw[KH (by simp;lia),L0 hq]
   ·rw[KI (by simp;lia),KI (by simp;lia),List.getElem?_drop]
    congr 1
    simp
    lia
  have hfl:(failedOf (setArr (setG (setPending st P) g) (wr r.toList 0 (u+k) xs))).isNone=true:=by show (failedOf st).isNone=true;rw[hB.failed];rfl
  have key:Q true (setG (setArr (setPending st P) (wr r.toList 0 (u+k) xs)) g):=by
   refine h _ g Ca ?_ (HK.mono (by lia) (by lia));rw[cY wk (by lia)];rw[g7 _ (i:=u) (j:=u+k) (k:=u+m+n) (by lia) (by lia) (by lia),g7 _ (i:=u+k) (j:=u+m+n') (k:=u+m+n) (by lia) (by lia) (by lia)];have part:∀i j,(j<=u+k\/u+m+n'<=i)->j<=xs.size->((wr r.toList 0 (u+k) xs).extract i j).toList=(xs.extract i j).toList:=fun i j hij hj=>by
    apply Nx;intro q;by_cases hq:q<j-i
    ·rw[LL,LL,Array.getElem?_extract,Array.getElem?_extract,wz];split
     ·exact HK _ (by lia)
     ·rfl
    ·rw[LX (by simp;lia),LX (by simp;lia)]
   have mid:((wr r.toList 0 (u+k) xs).extract (u+k) (u+m+n')).toList=r.toList:=by rw[LP,Ly,wl,List.drop_append_of_le_length (by simp;lia),MW (by simp<;>lia),LK,List.take_append_of_le_length (by lia),LG (by lia)]
   rw[part u (u+k) (.inl (Nat.le_refl _)) (by lia),part (u+m+n') (u+m+n) (.inr (Nat.le_refl _)) (by lia),mid];have F:=(cY hk (i:=u) (j:=u+k) (by lia)).mp fun p q a b c=>s1 p q a b (by lia);have L:=(cY hk (i:=u+m+n') (j:=u+m+n) (by lia)).mp fun p q a b c=>s2 p q (by lia) b c;have fx:∀x∈(xs.extract u (u+k)).toList,∀y,(y∈(xs.extract (u+k) (u+m)).toList\/y∈(xs.extract (u+m) (u+m+n)).toList)->le κ x y:=fun x hx y hy=>by
    obtain⟨p,hp,hp2,rfl⟩:=bz (x:=xs) (i:=u) (k:=k) hx;have t1:=low p hp;rw[(aU hk hp2).2]at t1;rcases hy with hy | hy
    ·obtain⟨q,hq,hq2,rfl⟩:=bz (x:=xs) (i:=u+k) (k:=m-k) (by rw[show u+k+(m-k)=u+m by lia];exact hy);have:=s1 (u+p) (u+k+q) (by lia) (by lia) (by lia);rw[(aU hk hp2).2,(aU hk hq2).2]at this;exact this
    ·obtain⟨q,hq,hq2,rfl⟩:=bz (x:=xs) (i:=u+m) (k:=n) hy;have t2:=s2 (u+m) (u+m+q) (by lia) (by lia) (by lia);rw[(aU hk hq2).2]at t2;exact LN t1 t2
   have JO:∀y∈(xs.extract (u+m) (u+m+n')).toList,y∈(xs.extract (u+m) (u+m+n)).toList:=fun y hy=>by rw[g7 xs (i:=u+m) (j:=u+m+n') (k:=u+m+n) (by lia) (by lia) (by lia)];exact Lv _ hy
   have JP:∀y∈(xs.extract (u+m+n') (u+m+n)).toList,y∈(xs.extract (u+m) (u+m+n)).toList:=fun y hy=>by rw[g7 xs (i:=u+m) (j:=u+m+n') (k:=u+m+n) (by lia) (by lia) (by lia)];exact KQ _ hy
   refine La.mpr ⟨F,La.mpr ⟨rs,L,fun x hx y hy=>?_⟩,fun x hx y hy=>?_⟩
   ·rcases K3.mp (rp.mem_iff.mp hx) with hx | hx
    ·obtain⟨p,hp,hp2,rfl⟩:=bz (x:=xs) (i:=u+k) (k:=m-k) (by rw[show u+k+(m-k)=u+m by lia];exact hx);obtain⟨q,hq,hq2,rfl⟩:=bz (x:=xs) (i:=u+m+n') (k:=n-n') (by rw[show u+m+n'+(n-n')=u+m+n by lia];exact hy);have t1:=s1 (u+k+p) (u+m-1) (by lia) (by lia) (by lia);have t2:=hi (n'+q) (by lia) (by lia);rw[show u+m+(n'+q)=u+m+n'+q by lia,(aU hk hq2).2]at t2;rw[(aU hk hp2).2]at t1;exact LN t1 t2
    ·obtain⟨p,hp,hp2,rfl⟩:=bz (x:=xs) (i:=u+m) (k:=n') hx;obtain⟨q,hq,hq2,rfl⟩:=bz (x:=xs) (i:=u+m+n') (k:=n-n') (by rw[show u+m+n'+(n-n')=u+m+n by lia];exact hy);have:=s2 (u+m+p) (u+m+n'+q) (by lia) (by lia) (by lia);rw[(aU hk hp2).2,(aU hk hq2).2]at this;exact this
   ·rcases K3.mp hy with hy | hy
    ·rcases K3.mp (rp.mem_iff.mp hy) with hy | hy
     ·exact fx x hx y (.inl hy)
     ·exact fx x hx y (.inr (JO y hy))
    ·exact fx x hx y (.inr (JP y hy))
  have goal:Q (failedOf (setArr (setG (setPending st P) g) (wr r.toList 0 (u+k) xs))).isNone (setArr (setG (setPending st P) g) (wr r.toList 0 (u+k) xs)):=by rw[hfl];exact key
  have JQ:arrOf (setG (setPending st P) g)=xs:=hxs;rw[<- JQ]at goal;exact goal
 by_cases hmn:m-k<=n'
 ·rw[if_pos hmn];exact wpS_bind (ES hL kx ky sx sy (by lia) (by lia) first last (st:=setPending st P) hB.kind Cq)
 ·rw[if_neg hmn];exact wpS_bind (EX hL kx ky sx sy (by lia) (by lia) first last (st:=setPending st P) hB.kind Cq)
end Ts
namespace Ts
open PySem PyProof.Rows
variable{A:Around}{E:Value->Shared->Prop}{s:Shared}{κ:KeyKind}{kd:SortKind}{a₀:Array Keyed}{prog:Program}{w:World}
noncomputable abbrev Run:=Nat×Nat×Nat
def Cov:List Run->Nat->Nat->Prop
 |[],i,j=>i=j
 |r::l,i,j=>r.1=i/\1<=r.2.1/\Cov l (i+r.2.1) j
theorem Cov.le:∀{l:List Run} {i j:Nat},Cov l i j->i+l.length<=j
 |[],i,j,h=>by cases h;simp
 |r::l,i,j,⟨h1,h2,h3⟩=>by have:=h3.le;rw[Li];lia
theorem Cov.app:∀{l m:List Run} {i j:Nat},Cov (l++m) i j↔∃k,Cov l i k/\Cov m k j
 |[],m,i,j=>⟨fun h=>⟨i,rfl,h⟩,fun⟨k,h1,h2⟩=>by cases h1;exact h2⟩
 |r::l,m,i,j=>by
  constructor
  ·rintro⟨h1,h2,h3⟩;obtain⟨k,h4,h5⟩:=Cov.app.mp h3;exact⟨k,⟨h1,h2,h4⟩,h5⟩
  ·rintro⟨k,⟨h1,h2,h4⟩,h5⟩;exact⟨h1,h2,Cov.app.mpr ⟨k,h4,h5⟩⟩
theorem Cov.bounds:∀{l:List Run} {i j:Nat},Cov l i j->∀r∈l,i<=r.1/\r.1+r.2.1<=j
 |[],i,j,h,r,hr=>by cases hr
 |q::l,i,j,⟨h1,h2,h3⟩,r,hr=>by
  rcases KD.mp hr with rfl | hr
  ·have:=h3.le;lia
  ·have:=h3.bounds r hr;lia
def EZ(κ:KeyKind)(xs:Array Keyed)(l:List Run):Prop:=∀r∈l,Seg κ xs r.1 (r.1+r.2.1)
structure SP(κ:KeyKind)(kd:SortKind)(a₀:Array Keyed)(st:SortSt)(P:List Run)(lo:Nat):Prop where
 sb:SB kd a₀ st
 pd:(pendingOf st).toList=P
 cov:Cov P 0 lo
 sg:EZ κ (arrOf st) P
 le:lo<=a₀.size
theorem kg(hL:cW (model prog w) A E s κ kd)(h0:KeysOf κ a₀){st:SortSt}{L1 L2:List Run}{r1 r2:Run}{lo:Nat}(h:SP κ kd a₀ st (L1++r1::r2::L2) lo){Q:Bool->SortSt->Prop}
  (q:∀st',SP κ kd a₀ st' (L1++(r1.1,r1.2.1+r2.2.1,r1.2.2)::L2) lo->(∀i j,lo<=i->Seg κ (arrOf st) i j->Seg κ (arrOf st') i j)->Q true st'):wpS (model prog w) A E s (mergeAt' L1.length) Q st:=by
 obtain⟨k,c1,c2,c3,c4⟩:=Cov.app.mp h.cov;obtain⟨c5,c6,c7⟩:=c4;obtain⟨u,m,c⟩:=r1;obtain⟨v,n,c'⟩:=r2;dsimp only at c2 c3 c5 c6 c7 q;subst c2;subst c5;have hp1:(pendingOf st)[L1.length]?=some (u,m,c):=by rw[<- LL,h.pd,KI (Nat.le_refl _),Ma];rfl
 have hp2:(pendingOf st)[L1.length+1]?=some (u+m,n,c'):=by rw[<- LL,h.pd,KI (by lia),show L1.length+1-L1.length=1 by lia];rfl
 have s1:=h.sg (u,m,c) (by simp);have s2:=h.sg (u+m,n,c') (by simp);have b2:=c7.le;refine HJ hL h0 h.sb hp1 hp2 c3 c6 (by have:=h.le;lia) s1 s2 fun xs g hp hs ho=>q _ ⟨⟨?_,h.sb.kind,h.sb.failed⟩,?_,?_,?_,h.le⟩ fun i j hi hg=>ho.seg (.inr (by lia)) hg
 ·exact hp.trans h.sb.perm
 ·show (((pendingOf st).setIfInBounds L1.length (u,m+n,c)).eraseIdxIfInBounds (L1.length+1)).toList=_;have hz:(pendingOf st).size=L1.length+(2+L2.length):=by rw[<- KR,h.pd];simp;lia
  rw[Array.eraseIdxIfInBounds,dif_pos (by simp;lia)];rw[Array.toList_eraseIdx,Array.toList_setIfInBounds,h.pd];rw[Lf _ _ (Nat.le_refl _),Ma,List.set_cons_zero,List.eraseIdx_append_of_length_le (by lia),show L1.length+1-L1.length=1 by lia];rfl
 ·refine Cov.app.mpr ⟨u,c1,rfl,by show 1<=m+n;lia,?_⟩;show Cov L2 (u+(m+n)) lo;rw[<- Nat.add_assoc];exact c7
 ·intro r hr;show Seg κ xs r.1 (r.1+r.2.1);rcases K3.mp hr with hr | hr
  ·have:=c1.bounds r hr;exact ho.seg (.inl (by lia)) (h.sg r (by simp[hr]))
  ·rcases KD.mp hr with rfl | hr
   ·show Seg κ xs u (u+(m+n));rw[<- Nat.add_assoc];exact hs
   ·have:=c7.bounds r hr;exact ho.seg (.inr (by lia)) (h.sg r (by simp[hr]))
theorem two_last{α:Type}{l:List α}(h:1<l.length):∃L1 a b,l=L1++[a,b]:=by
 have h1:l≠[]:=by intro z;rw[z]at h;simp at h
 have h2:l.dropLast≠[]:=by
  intro z;have:=congrArg List.length z;rw[List.length_dropLast]at this;simp at this
  lia
 exact ⟨l.dropLast.dropLast,l.dropLast.getLast h2,l.getLast h1,by
  conv=>lhs;rw[<- List.dropLast_concat_getLast h1,<- List.dropLast_concat_getLast h2]
  simp⟩
theorem jB{n lo:Nat}{st2:SortSt}{P:List Run}(hn1:1<=n)(hn2:lo+n<=a₀.size)(sp2:SP κ kd a₀ st2 P lo)(sg2:Seg κ (arrOf st2) lo (lo+n)):SP κ kd a₀ (setPending st2 ((pendingOf st2).push (lo,n,0))) (P++[(lo,n,0)]) (lo+n):=
 ⟨sp2.sb.pend _,by show ((pendingOf st2).push _).toList=_;rw [Mv,sp2.pd],Cov.app.mpr ⟨lo,sp2.cov,rfl,hn1,rfl⟩,fun r hr=>by
  rcases K3.mp hr with hr | hr
  ·exact sp2.sg r hr
  ·rw[KS]at hr;subst hr;exact sg2,hn2⟩
theorem pS{lo c:Nat}{st2:SortSt}{P:List Run}(sp2:SP κ kd a₀ st2 P lo):∃P',SP κ kd a₀ (setPending st2 ((pendingOf st2).modify ((pendingOf st2).size-1) fun x=>(x.fst,x.2.fst,c))) P' lo:=by
 have cv:∀(P:List Run) (k i j:Nat),Cov P i j->Cov (P.modify k fun x=>(x.fst,x.2.fst,c)) i j:=fun P=>by
  induction P with
  |nil=>intro k i j h;cases k<;>exact h
  |cons r P ih=>
   intro k i j h;cases k with
   |zero=>exact h
   |succ k=>exact⟨h.1,h.2.1,ih k _ _ h.2.2⟩
 have sg:∀(P:List Run) (k:Nat),EZ κ (arrOf st2) P->EZ κ (arrOf st2) (P.modify k fun x=>(x.fst,x.2.fst,c)):=fun P=>by
  induction P with
  |nil=>intro k h;cases k<;>exact h
  |cons r P ih=>
   intro k h;cases k with
   |zero=>
    intro q hq;rcases KD.mp (show q∈(r.1,r.2.1,c)::P from hq) with rfl | hq
    ·exact h r (by simp)
    ·exact h q (by simp[hq])
   |succ k=>
    intro q hq;rcases KD.mp (show q∈r::P.modify k _ from hq) with rfl | hq
    ·exact h q (by simp)
    ·exact ih k (fun z hz=>h z (by simp[hz])) q hq
 exact⟨P.modify ((pendingOf st2).size-1) fun x=>(x.fst,x.2.fst,c),sp2.sb.pend _,by show ((pendingOf st2).modify _ _).toList=_;rw[Array.toList_modify,sp2.pd],cv _ _ _ _ sp2.cov,sg _ _ sp2.sg,sp2.le⟩
theorem sY(hL:cW (model prog w) A E s κ kd)(h0:KeysOf κ a₀){st:SortSt}(hB:SB kd a₀ st)(hp:pendingOf st=#[])(h1:1<=a₀.size){Q:Unit->SortSt->Prop}
  (h:∀st',SB kd a₀ st'->Seg κ (arrOf st') 0 a₀.size->Q () st'):wpS (model prog w) A E s sortRuns' Q st:=by
 rw[sortRuns'_eq];refine wpS_bind (wpS_get ?_)
 try dsimp only
 rw[hB.size]
 generalize minRun' a₀.size a₀.size 0=mr
 refine wpS_bind (wpS_mono (wpS_forRange (I:=fun x c st'=>∃ lo P,c=(none,lo)∧x≤lo∧SP κ kd a₀ st' P lo)
  (Q:=fun c st'=>∃P,c=(none,a₀.size)/\SP κ kd a₀ st' P a₀.size) ?st1 ?fi1 ⟨0,[],rfl,Nat.le_refl _,⟨hB,by rw[hp],rfl,fun r hr=>by (cases hr),by lia⟩⟩) ?po1)
 case fi1=>
  rintro c st' ⟨lo,P,rfl,hx,sp⟩;have:=sp.le;have e:lo=a₀.size:=by lia
  subst e;exact⟨P,rfl,sp⟩
 case st1=>
  rintro x c st' _ hx ⟨lo,P,rfl,hxl,sp⟩
  try dsimp only
  by_cases hlo:lo≥a₀.size
  ·rw[if_pos hlo];have:=sp.le;have e:lo=a₀.size:=by lia
   subst e;exact wpS_pure ⟨P,rfl,sp⟩
  rw[if_neg hlo];refine wpS_bind (EH hL h0 sp.sb (by lia) (by lia) fun n xs hn1 hn2 hpm hsg hout=>?_)
  try dsimp only
  have Cb:Out (arrOf st') xs lo a₀.size:=hout.mono (Nat.le_refl _) (by lia);have spx:∀ys,ys.Perm (arrOf st')->Out (arrOf st') ys lo a₀.size->SP κ kd a₀ (setArr st' ys) P lo:=fun ys hpm hout=>⟨sp.sb.arr hpm,sp.pd,sp.cov,fun r hr=>hout.seg (.inl (sp.cov.bounds r hr).2) (sp.sg r hr),sp.le⟩;by_cases hmr:n<mr
  ·rw[if_pos hmr];refine wpS_bind (wpS_lift (wpAny_rule ⟨rfl,?_⟩));have hB2:SB kd a₀ (setArr st' xs):=sp.sb.arr hpm;refine wpS_bind (EG hL h0 hB2 (by lia) hn1 (by lia) hsg fun ys hp2 hs2 ho2=>?_);rw[if_neg (by decide)];have hk1:1<=min (a₀.size-lo) mr:=by lia
   have hk2:lo+min (a₀.size-lo) mr<=a₀.size:=by lia
   have sp2:=spx ys (hp2.trans hpm) (Cb.trans (ho2.mono (Nat.le_refl _) (by lia)));have sg2:Seg κ (arrOf (setArr st' ys)) lo (lo+min (a₀.size-lo) mr):=hs2;show wpS _ _ _ _ _ _ (setArr st' ys)
   generalize min (a₀.size-lo) mr=k at hk1 hk2 sg2 ⊢
   refine wpS_bind (wpS_get ?_);split
   ·rename_i u m c hb;refine wpS_bind (wpS_mono (wpS_forRange (I:=fun _ c st'=>c=(none,())/\∃P',SP κ kd a₀ st' P' lo/\Seg κ (arrOf st') lo (lo+k)) (Q:=fun c st'=>c=(none,())/\∃P',SP κ kd a₀ st' P' lo/\Seg κ (arrOf st') lo (lo+k)) ?stA (fun c st' z=>z) ⟨rfl,P,sp2,sg2⟩) ?poA)
    case stA=>
     rintro x c st' _ _ ⟨rfl,P',sp',sg'⟩;refine wpS_bind (wpS_get ?_)
     try dsimp only
     split
     ·rename_i e1 e2 old ho;split
      ·exact wpS_pure ⟨rfl,P',sp',sg'⟩
      ·have hz:1<(pendingOf st').size:=by
        by_cases z:(pendingOf st').size>1
        ·exact z
        ·rw[if_neg z]at ho;cases ho
       obtain⟨L1,r1,r2,rfl⟩:=two_last (l:=P') (by rw[<- sp'.pd,KR];exact hz);have hl:(pendingOf st').size-2=L1.length:=by rw[<- KR,sp'.pd];simp
       rw[hl];refine wpS_bind (kg hL h0 sp' fun st3 sp3 k3=>?_);rw[if_neg (by decide)];exact wpS_pure ⟨rfl,_,sp3,k3 _ _ (Nat.le_refl _) sg'⟩
     ·exact wpS_pure ⟨rfl,P',sp',sg'⟩
    case poA=>
     rintro c st' ⟨rfl,P',sp',sg'⟩
     try dsimp only
     refine wpS_bind (wpS_modify ?_);obtain⟨P2,sp4⟩:=pS (c:=power' a₀.size (2*u+m) (2*u+m+m+k) a₀.size) sp';exact wpS_bind (wpS_modify (wpS_pure ⟨lo+k,_,rfl,by lia,jB (by lia) (by lia) sp4 sg'⟩))
   ·exact wpS_bind (wpS_modify (wpS_pure ⟨lo+k,_,rfl,by lia,jB (by lia) (by lia) sp2 sg2⟩))
  ·rw[if_neg hmr];have sp2:=spx xs hpm Cb;have sg2:Seg κ (arrOf (setArr st' xs)) lo (lo+n):=hsg;refine wpS_bind (wpS_get ?_);split
   ·rename_i u m c hb;refine wpS_bind (wpS_mono (wpS_forRange (I:=fun _ c st'=>c=(none,())/\∃P',SP κ kd a₀ st' P' lo/\Seg κ (arrOf st') lo (lo+n)) (Q:=fun c st'=>c=(none,())/\∃P',SP κ kd a₀ st' P' lo/\Seg κ (arrOf st') lo (lo+n)) ?stA (fun c st' z=>z) ⟨rfl,P,sp2,sg2⟩) ?poA)
    case stA=>
     rintro x c st' _ _ ⟨rfl,P',sp',sg'⟩;refine wpS_bind (wpS_get ?_)
     try dsimp only
     split
     ·rename_i e1 e2 old ho;split
      ·exact wpS_pure ⟨rfl,P',sp',sg'⟩
      ·have hz:1<(pendingOf st').size:=by
        by_cases z:(pendingOf st').size>1
        ·exact z
        ·rw[if_neg z]at ho;cases ho
       obtain⟨L1,r1,r2,rfl⟩:=two_last (l:=P') (by rw[<- sp'.pd,KR];exact hz);have hl:(pendingOf st').size-2=L1.length:=by rw[<- KR,sp'.pd];simp
       rw[hl];refine wpS_bind (kg hL h0 sp' fun st3 sp3 k3=>?_);rw[if_neg (by decide)];exact wpS_pure ⟨rfl,_,sp3,k3 _ _ (Nat.le_refl _) sg'⟩
     ·exact wpS_pure ⟨rfl,P',sp',sg'⟩
    case poA=>
     rintro c st' ⟨rfl,P',sp',sg'⟩
     try dsimp only
     refine wpS_bind (wpS_modify ?_);obtain⟨P2,sp4⟩:=pS (c:=power' a₀.size (2*u+m) (2*u+m+m+n) a₀.size) sp';exact wpS_bind (wpS_modify (wpS_pure ⟨lo+n,_,rfl,by lia,jB (by lia) (by lia) sp4 sg'⟩))
   ·exact wpS_bind (wpS_modify (wpS_pure ⟨lo+n,_,rfl,by lia,jB (by lia) (by lia) sp2 sg2⟩))
 case po1=>
  rintro c st' ⟨P,rfl,sp⟩
  try dsimp only
  have hPl:=sp.cov.le;refine wpS_bind (wpS_mono (wpS_forRange (I:=fun x c st'=>c=(none,())/\∃P,SP κ kd a₀ st' P a₀.size/\P.length+x<=a₀.size+1) (Q:=fun c st'=>c=(none,())/\∃P,SP κ kd a₀ st' P a₀.size/\P.length<=1) ?st2 ?fi2 ⟨rfl,P,sp,by lia⟩) ?po2)
  case fi2=>rintro c st' ⟨rfl,P,sp,hl⟩;exact⟨rfl,P,sp,by lia⟩
  case st2=>
   rintro x c st' _ hx ⟨rfl,P,sp,hl⟩
   try dsimp only
   refine wpS_bind (wpS_get ?_);have A3:(pendingOf st').size=P.length:=by rw[<- KR,sp.pd]
   by_cases h2:(pendingOf st').size<=1
   ·rw[if_pos h2];exact wpS_pure ⟨rfl,P,sp,by lia⟩
   rw[if_neg h2]
   generalize hi:(if (Option.any (fun z=>decide (z<((pendingOf st')[(pendingOf st').size-2+1]?.elim 0 fun z=>z.2.1))) (if (pendingOf st').size-2>0 then (pendingOf st')[(pendingOf st').size-2-1]?.map fun z=>z.2.1 else none))=true then (pendingOf st').size-2-1 else (pendingOf st').size-2)=i
   have hle:∀(c:Bool) (m:Nat),(if c=true then m-1 else m)<=m:=fun c m=>by cases c<;>simp
   have hi2:i<=(pendingOf st').size-2:=hi▸hle _ _;have hib:i+1<P.length:=by lia
   have e:P=P.take i++P[i]::P[i+1]::P.drop (i+2):=by have a1:=Lp (l:=P) (i:=i) (by lia);have a2:=Lp (l:=P) (i:=i+1) (by lia);rw[<- a2,<- a1,Mg]
   have sp':=sp;rw[e]at sp';have xR:(P.take i).length=i:=by rw[Lh];lia
   have mg:=kg (A:=A) (E:=E) (s:=s) hL h0 sp' (Q:=fun b st''=>b=true/\∃P2,SP κ kd a₀ st'' P2 a₀.size/\P2.length+(x+1)<=a₀.size+1) fun st3 sp3 k3=>⟨rfl,_,sp3,by simp;lia⟩;rw[xR]at mg;refine wpS_bind (wpS_mono mg fun b st3 hb=>?_);obtain⟨rfl,P2,sp2,hl2⟩:=hb;rw[if_neg (by decide)];exact wpS_pure ⟨rfl,P2,sp2,hl2⟩
  case po2=>
   rintro c st' ⟨rfl,P,sp,hl⟩;refine wpS_pure (h st' sp.sb ?_)
   match P,hl,sp with
   |[],_,sp=>have:=sp.cov;unfold Cov at this;lia
   |[r],_,sp=>obtain⟨c1,c2,c3⟩:=sp.cov;have:=sp.sg r (by simp);unfold Cov at c3;rw[c1,c3]at this;exact this
   |_::_::_,hl,_=>simp at hl
end Ts
namespace Ts
open PySem PyProof.Rows
variable{A:Around}{E:Value->Shared->Prop}{s:Shared}{κ:KeyKind}{kd:SortKind}{prog:Program}{w:World}
theorem done_one{vs:List Value}(h:vs.toArray.size<2):Seg κ (pairsOf vs) 0 (pairsOf vs).size:=fun p q _ h2 h3=>by
 rw[pairsOf_size]at h3;simp at h;have:p=q:=by lia
 subst this;exact LB _
theorem Ab{a:Addr}{vs:List Value}{n:Nat}{R:Fin->Shared->Prop}(ho:s.heap.get? a=some (seqObj "list" vs.toArray n))(hn:vs.length<=100000)
  (hk:KeysOf κ (pairsOf vs)) (hkk:∀h',(∀b o,b≠a->s.heap.get? b=some o->h'.get? b=some o)->2<=vs.length->∀{Q:SortKind->Shared->Prop},Q kd { s with heap:=h' }->wpAny (model prog w) A (keyKind' vs.toArray) Q E { s with heap:=h' })
  (hL:∀h',(∀b o,b≠a->s.heap.get? b=some o->h'.get? b=some o)->cW (model prog w) A E { s with heap:=h' } κ kd)
  (h:∀st':SortSt,(arrOf st').Perm (pairsOf vs)->Seg κ (arrOf st') 0 (pairsOf vs).size->R (.done (.ret .none)) { s with heap:=sortedHeap s.heap a vs ((arrOf st').map (·.2)) }) :
  wpAny (model prog w) A (Builtin.«list.sort» ⟨[.ref a],[]⟩) R E s:=by
 have lt:=KC ho;have fits:sizeLine=sizeLine:=rfl;rw[list_sort_plain];refine wpAny_bind (listItems_at ho rfl (wpAny_bind (listUpdate_at ho rfl ?_ (hsz:=by simp;exact Nat.le_trans hn (by decide)) (hsz2:=Lc _))));obtain⟨ep,h1⟩:∃ep,(s.heap.update a (K0 fun _=>#[])).get? a=some (seqObj "list" #[] ep):=⟨_,get?_update_seq ho _⟩
 refine wpAny_bind (seqEpoch_at h1 rfl (wpAny_bind (wpAny_newTuple (wpAny_bind (wpAny_newList (wpAny_holding ?_))))));have h6:(((s.heap.update a (K0 fun _=>#[])).push (seqObj "tuple" vs.toArray 0)).push (seqObj "list" #[] 0)).get? a=some (seqObj "list" #[] ep):=by have z1:(s.heap.update a (K0 fun _=>#[])).objs.size=s.heap.objs.size:=L6 _ _ _;rw[LQ _ _ _ (by rw[size_push',z1];exact KP (LR lt)),LQ _ _ _ (by rw[z1];exact KP lt)];exact h1
 have ext:∀b o,b≠a->s.heap.get? b=some o->(((s.heap.update a (K0 fun _=>#[])).push (seqObj "tuple" vs.toArray 0)).push (seqObj "list" #[] 0)).get? b=some o:=fun b o hb e=>by have z1:(s.heap.update a (K0 fun _=>#[])).objs.size=s.heap.objs.size:=L6 _ _ _;have lb:=KC e;rw[LQ _ _ _ (by rw[size_push',z1];exact KP (LR lb)),LQ _ _ _ (by rw[z1];exact KP lb),Lr _ _ _ _ hb];exact e
 show wpAny (model prog w) A _ R E { s with heap:=(((s.heap.update a (K0 fun _=>#[])).push (seqObj "tuple" vs.toArray 0)).push (seqObj "list" #[] 0)) };have hkk':=hkk _ ext;have hL':=hL _ ext;have Cq:∀st':SortSt,failedOf st'=none->(arrOf st').Perm (pairsOf vs)->Seg κ (arrOf st') 0 (pairsOf vs).size ->
   wpAny (model prog w) A (do
    let d <- seqEpoch a
    let touched:=d != ep
    Builtin.List.listUpdate (LD a) fun _=>Array.map (fun x=>x.snd) (arrOf st')
    if let some e:=failedOf st' then
     rule "list.sort.comparison-raised"
     throw e
    if touched then
     rule "list.sort.modified"
     raiseError "ValueError" "list modified during sort"
    ret .none) R E { s with heap:=(((s.heap.update a (K0 fun _=>#[])).push (seqObj "tuple" vs.toArray 0)).push (seqObj "list" #[] 0)) }:=fun st' hf hp hs=>by
  refine wpAny_bind (seqEpoch_at h6 rfl ?_);have hz:(Array.map (fun x=>x.snd) (arrOf st')).size=vs.length:=by rw[Array.size_map,hp.size_eq,pairsOf_size]
  refine wpAny_bind (listUpdate_at h6 rfl ?_ (hsz:=Lc _) (hsz2:=by rw[hz];exact Nat.le_trans hn (by decide)));rw[hf];simp only[bne_self_eq_false,L7,if_false];exact wpAny_pure (h st' hp hs)
 by_cases h2:vs.toArray.size<2
 ·rw[if_pos h2,if_pos h2];refine wpAny_bind (wpAny_pure ?_);refine wpAny_bind (show wpAny (model prog w) A ((pure ():StateT SortSt Sem Unit).run (MM general' (vs.toArray.zip vs.toArray) #[] 7 none)) _ E _ from ?_);rw[StateT.run_pure];refine wpAny_pure ?_;exact Cq (MM general' (vs.toArray.zip vs.toArray) #[] 7 none) rfl (Array.Perm.refl _) (done_one h2)
 ·rw[if_neg h2,if_neg h2];have hl:2<=vs.length:=by simp at h2;lia
  refine wpAny_bind (hkk' hl ?_);refine wpAny_bind (wpAny_mono (sY (κ:=κ) hL' hk (st:=MM kd (vs.toArray.zip vs.toArray) #[] 7 none) ⟨Array.Perm.refl _,rfl,rfl⟩ rfl (by rw [pairsOf_size];lia)
   (Q:=fun _ st'=>(arrOf st').Perm (pairsOf vs)/\failedOf st'=none/\Seg κ (arrOf st') 0 (pairsOf vs).size) fun st' sb sg=>⟨sb.perm,sb.failed,sg⟩) ?_ fun _ _ e=>e)
  rintro⟨⟨⟩,st'⟩ s' ⟨rfl,hp,hf,hs⟩;exact Cq st' hf hp hs
end Ts
namespace Ts
open PySem PyProof.Rows
variable{A:Around}{E:Value->Shared->Prop}{s:Shared}{κ:KeyKind}{kd:SortKind}{a₀:Array Keyed}{prog:Program}{w:World}
end Ts
namespace Ts
open PySem PyProof.Rows
variable{A:Around}{E:Value->Shared->Prop}{s:Shared}{κ:KeyKind}{kd:SortKind}{prog:Program}{w:World}
end Ts
namespace Dm
section
variable{α:Type}
noncomputable def lx:List Int->List Int->Bool
 |[],[]=>false
 |[],_::_=>true
 |_::_,[]=>false
 |a::x,b::y=>if a=b then lx x y else decide (a<b)
theorem fP:∀a,lx a a=false
 |[]=>rfl
 |a::x=>by rw[lx,if_pos rfl,fP x]
theorem g8:∀a b c,lx a b=true->lx b c=true->lx a c=true
 |[],[],_,h,_=>by cases h
 |[],_::_,[],_,h=>by cases h
 |[],_::_,_::_,_,_=>rfl
 |_::_,[],_,h,_=>by cases h
 |_::_,_::_,[],_,h=>by cases h
 |a::x,b::y,c::z,h1,h2=>by
  rw[lx]at h1 h2 ⊢;by_cases e1:a=b
  ·subst e1;rw[if_pos rfl]at h1;by_cases e2:a=c
   ·subst e2;rw[if_pos rfl]at h2 ⊢;exact g8 x y z h1 h2
   ·rw[if_neg e2]at h2 ⊢;exact h2
  ·rw[if_neg e1]at h1;have h1:=of_decide_eq_true h1;by_cases e2:b=c
   ·subst e2;rw[if_neg e1];exact decide_eq_true h1
   ·rw[if_neg e2]at h2;have h2:=of_decide_eq_true h2;rw[if_neg (by lia)];exact decide_eq_true (by lia)
theorem fu:∀a b,lx a b=false->lx b a=false->a=b
 |[],[],_,_=>rfl
 |[],_::_,h,_=>by cases h
 |_::_,[],_,h=>by cases h
 |a::x,b::y,h1,h2=>by
  rw[lx]at h1 h2;by_cases e:a=b
  ·subst e;rw[if_pos rfl]at h1 h2;rw[fu x y h1 h2]
  ·rw[if_neg e]at h1;rw[if_neg (fun z=>e z.symm)]at h2;have h1:=of_decide_eq_false h1;have h2:=of_decide_eq_false h2
   lia
theorem wZ(a b c:List Int)(h:lx a c=true):lx a b=true\/lx b c=true:=by
 by_cases h1:lx a b=true
 ·exact .inl h1
 ·refine .inr ?_;have h1':lx a b=false:=by simpa using h1
  by_cases h2:lx b a=true
  ·exact g8 b a c h2 h
  ·have:=fu a b h1' (by simpa using h2);subst this;exact h
noncomputable def ins{α:Type}(lt:α->α->Bool)(x:α):List α->List α
 |[]=>[x]
 |y::l=>if lt y x then y::ins lt x l else x::y::l
noncomputable def aZ{α:Type}(lt:α->α->Bool):List α->List α
 |[]=>[]
 |x::l=>ins lt x (aZ lt l)
theorem kh(lt:α->α->Bool)(x:α):∀l,(ins lt x l).Perm (x::l)
 |[]=>List.Perm.refl _
 |y::l=>by
  rw[ins];split
  ·exact((kh lt x l).cons y).trans (M3.swap x y l)
  ·exact List.Perm.refl _
theorem bg(lt:α->α->Bool):∀l,(aZ lt l).Perm l
 |[]=>List.Perm.refl _
 |x::l=>(kh lt x _).trans ((bg lt l).cons x)
theorem ki{lt:α->α->Bool}(tr:∀a b c,lt b a=false->lt c b=false->lt c a=false)(as:∀a b,lt a b=true->lt b a=false)(x:α):∀l:List α,l.Pairwise (fun a b=>lt b a=false)->(ins lt x l).Pairwise (fun a b=>lt b a=false)
 |[],_=>by simp[ins]
 |y::l,h=>by
  rw[ins];obtain⟨h1,h2⟩:=LO.mp h;split
  ·rename_i hl;refine LO.mpr ⟨fun z hz=>?_,ki tr as x l h2⟩;rcases KD.mp ((kh lt x l).mem_iff.mp hz) with rfl | hz
   ·exact as _ _ hl
   ·exact h1 z hz
  ·rename_i hl;have hl':lt y x=false:=by simpa using hl
   refine LO.mpr ⟨fun z hz=>?_,h⟩;rcases KD.mp hz with rfl | hz
   ·exact hl'
   ·exact tr _ _ _ hl' (h1 z hz)
theorem g9{lt:α->α->Bool}(tr:∀a b c,lt b a=false->lt c b=false->lt c a=false)(as:∀a b,lt a b=true->lt b a=false):∀l:List α,(aZ lt l).Pairwise (fun a b=>lt b a=false)
 |[]=>List.Pairwise.nil
 |x::l=>ki tr as x _ (g9 tr as l)
end
end Dm
namespace Br
open PySem PySem.Spec PyProof.Rows L2
noncomputable def lexOrd:KeyOrd:=⟨List Int,Dm.lx,Dm.fP,Dm.g8,fun a b c h=>Dm.wZ a b c h,Dm.fu⟩
noncomputable def g_:List V->Option (List Int)
 |[]=>some []
 |.int i::r=>(g_ r).map fun ns=>i::ns
 |_=>none
theorem fQ:∀ns:List Int,g_ (ns.map V.int)=some ns
 |[]=>rfl
 |n::ns=>by rw[KA,g_,fQ ns];rfl
theorem pU:∀{xs:List V} {ns:List Int},g_ xs=some ns->xs=ns.map V.int
 |[],ns,h=>by cases h;rfl
 |.int i::r,ns,h=>by
  unfold g_ at h;cases e:g_ r with
  |none=>rw[e]at h;cases h
  |some ms=>rw[e]at h;cases h;rw[pU e];rfl
 |.non::_,_,h=>by cases h
 |.bl _::_,_,h=>by cases h
 |.str _::_,_,h=>by cases h
 |.ref _::_,_,h=>by cases h
 |.byt _::_,_,h=>by cases h
 |.flt _::_,_,h=>by cases h
 |.ty _::_,_,h=>by cases h
section
variable{prog:Program}{w:World}{A:Around}{E:Value->Shared->Prop}{s:Shared}
theorem l_{κ:KeyKind}{kd:SortKind}(h:∀(x y:Keyed) (a b:κ.α) {Q:Bool->Shared->Prop} {E:Value->Shared->Prop},κ.keyOf x.1=some a->κ.keyOf y.1=some b->Q (κ.blt a b) s->wpAny (model prog w) A (keyLt' kd x.1 y.1) Q E s):Ts.cW (model prog w) A E s κ kd:=fun x y a b st Q ha hb hk q=>by rw[lt'_eq];refine wpS_bind (wpS_get ?_);rw[hk];refine wpS_bind (wpS_lift (wpAny_attempt (h x y a b ha hb ⟨rfl,?_⟩)));exact wpS_pure q
end
section
variable{X:Cx}
theorem uN{vs:List Value}{q:Keyed}(h:q∈(pairsOf vs).toList):q.1=q.2/\q.1∈vs:=by
 rw[pairsOf_toList]at h;have hh:∀(l:List Value) (q:Keyed),q∈l.zip l->q.1=q.2/\q.1∈l:=fun l=>by
  induction l with
  |nil=>intro q h;cases h
  |cons v l ih=>
   intro q h;rw[Lw]at h;rcases KD.mp h with rfl | h
   ·exact⟨rfl,Kz⟩
   ·exact⟨(ih q h).1,Kw _ (ih q h).2⟩
 exact hh _ q h
end
end Br
namespace L2
open PySem PySem.Spec PyProof.Rows
section
variable{P:Program}{w:World}{K:gb}{mg:Str->Option Value}{base:Heap}{N:List Str}{qual:Str}{scope:Scope}{f:Addr}{cd:Value}{A:Around}{outer:List Env}{s₀:Shared}{H₀:Hp}{E:XK}{C:Addr}
 {jn:List (Addr×Obj)} {σ:St} {H:Hp} {s:Shared}
end
section
variable{X:Cx}{jn:List (Addr×Obj)}{σ:L2.St}{H:Hp}{s:Shared}
theorem Inv.HL(I:Inv X jn σ H s){ea:Addr}{o:HO}(n:H ea=none)(hok:bq X.prog X.w (upd H ea o) s.heap ea o)(n0:X.s₀.heap.get? ea=none)(nl:ea≠X.env.locals)(nc:∀x c,X.env.cells.lookup x=some c->c≠ea)
  (np:∀p∈X.pn++jn,p.1≠ea):Inv X jn σ (upd H ea o) s:=by
 have ne:∀b u,H b=some u->b≠ea:=fun b u e z=>by rw[z,n]at e;cases e
 have n1:∀b u,X.s₀.heap.get? b=some u->b≠ea:=fun b u e z=>by rw[z,n0]at e;cases e
 refine⟨I.ok,I.os,I.bare,⟨I.base.keep,I.base.slot,fun b u e q hx=>?_,I.base.there,fun b xs e=>?_,fun b u v e=>?_,fun b x1 x2 x3 e=>?_⟩,I.loc,I.cell,?_,fun x c e=>?_,fun p hp=>?_,fun b u e=>?_,I.len⟩
 ·rw[af (n1 b u e)];exact I.base.free b u e q hx
 ·have:=I.base.tups b xs e;rw[af (ne b _ this)];exact this
 ·have:=I.base.kZ b u v e;rw[af (ne b _ this)];exact this
 ·have:=I.base.iK b _ _ _ e;rw[af (ne b _ this)];exact this
 ·rw[af (Lg nl)];exact I.free
 ·rw[af (nc x c e)];exact I.eT x c e
 ·obtain⟨e,q,a,b,d⟩:=I.pin p hp;exact⟨e,by rw[af (np p hp)];exact q,a,b,d⟩
 ·by_cases hb:b=ea
  ·subst hb;rw[aq]at e;cases e;exact hok
  ·rw[af hb]at e;exact(I.hok b u e).stay (fun c v _ q=>q) (fun c q=>by rw[af (ne c _ q)];exact q) (fun c _ _ q=>by rw[af (ne c _ q)];exact q) fun c xs q=>by rw[af (ne c _ q)];exact q
end
end L2
namespace Dm
noncomputable def gy:List Int->Int
 |[]=>0
 |x::r=>x+gy r
noncomputable def mh:List Dat->Option RV
 | [.lst xs]=>(match cN xs with
  |some ns=>vI (gy ns)
  |none=>none)
 |_=>none
end Dm
namespace Br
open PySem PySem.Spec PyProof.Rows L2
theorem w4(a b:List Int):Dm.gy (a++b)=Dm.gy a+Dm.gy b:=by
 induction a with
 |nil=>rw[Dm.gy,LK,NC]
 |cons x a ih=>rw[ND,Dm.gy,Dm.gy,ih,Int.add_assoc]
theorem jb(ns:List Int):∀k,k<=ns.length->preSum (fun i=>ns.getD i 0) k=Dm.gy (ns.take k)
 |0,_=>rfl
 |k+1,h=>by have e:preSum (fun i=>ns.getD i 0) (k+1)=preSum (fun i=>ns.getD i 0) k+ns.getD k 0:=rfl;rw[e,jb ns k (by lia),List.take_succ_eq_append_getElem (by lia),w4];rw[Lu,KG (by lia)];simp[Dm.gy]
section
variable{X:Cx}
theorem Ac{ns:List Int}{its:List Value}(rv:Vals (ns.map V.int) its):∀(i:Nat) (v:Value),its.toArray[i]?=some v->∃t,v=.int (ns.getD i 0) t:=by
 intro i v hv;have hv':its[i]?=some v:=by simpa using hv
 have xR:=rv.length;rw[gp]at xR;have hi:i<ns.length:=by rw[xR];exact(pe.mp hv').1
 have hb:(ns.map V.int)[i]?=some (V.int ns[i]):=by rw[KZ,KG hi];rfl
 obtain⟨u,hu,ru⟩:=rv.get hb;rw[hv']at hu;cases hu;obtain⟨t,rfl⟩:=ru;exact⟨t,by rw[Lu,KG hi];rfl⟩
theorem uO(hc:X.calm=true):dM X (.builtin "sum") (fun xs H Q=>∃(a:Addr) (ns:List Int),xs=[.ref a]/\Rd H a (.lst (ns.map V.int))/\Q (.int (Dm.gy ns)) H):=by
 intro jn s σ H xs us Q I r h;obtain⟨a,ns,rfl,hq,q⟩:=h;obtain⟨u,rfl,rx⟩:=vals1 r;cases rx;obtain⟨z,its,n,rv,e⟩:=hq.ok I.hok;have hl:s.heap.IsList a its.toArray:=⟨_,e,rfl,_,rfl⟩
 have xR:=rv.length;rw[gp]at xR;have hax:a≠s.heap.objs.size:=KP (KC e);refine PySem.call_sum_walkG (wpAny_pyIter_list hl ⟨s.heap.objs.size,_,_,_,_,_,fun i=>ns.getD i 0,rfl,Walks.list (A:=X.A.in1) (I.ok.hd hc) s.heap.objs.size a hax its.toArray,⟨⟨_,KU _ rfl,rfl,rfl⟩,hl.push _⟩,?_,Ac rv,fun h' tk t' hk=>?_⟩)
 ·intro b hb;simp only[KD,Ml,or_false]at hb;rcases hb with rfl | rfl
  ·show s.heap.objs.size<_;exact Mk ..▸NF _
  ·show b<_;exact Mk ..▸LR (KC e)
 ·have e1:its.toArray.size=ns.length:=by rw[Ky,xR]
  refine⟨.int (Dm.gy ns),H,I.kept (t':=tk) fun b o eb=>hk b o ?_ (Ds _ eb),⟨t',?_⟩,q⟩
  ·intro hm;have:b=s.heap.objs.size:=by simpa using hm
   exact absurd (KC eb) (by rw[this];exact Ls _)
  ·rw[e1,jb ns _ (Nat.le_refl _),List.take_length]
theorem kj:∀{H0:Hp} {us:List V} {ds:List Dat} {ns:List Int},av H0 us ds->Dm.cN ds=some ns->us=ns.map V.int
 |_,_,_,_,.nil,h=>by cases h;rfl
 |_,_,_,_,.cons (ds:=ds) (d:=d) r rr,h=>by
  cases d with
  |int i=>
   rw[Dm.cN]at h;cases hn:Dm.cN ds with
   |none=>rw[hn]at h;cases h
   |some ms=>rw[hn]at h;cases h;have:=Rep.isInt r;subst this;rw[kj rr hn];rfl
  |_=>cases h
theorem Ad:CallD (fun xs H Q=>∃(a:Addr) (ns:List Int),xs=[.ref a]/\Rd H a (.lst (ns.map V.int))/\Q (.int (Dm.gy ns)) H) Dm.mh:=by
 intro H0 H vs ds z Q s rs e k;unfold Dm.mh at e;split at e
 ·split at e
  ·rename_i ns hb;cases e;cases rs with
   |cons r rr=>cases rr;obtain⟨a,us,rfl,qa,ra⟩:=bI s r;have:=kj ra hb;subst this;exact⟨a,ns,rfl,qa,k _ H0 H (aJ.refl s) (.int _)⟩
  ·cases e
 ·cases e
end
section
variable{X:Cx}{e:Expr}{fs:List FE}{p pos:Pos}
theorem E1(hc:X.calm=true)(hg:Gl X "sum")(hm:X.mg "sum" = none)(ha:DA X [e] fs)(he:starEach [e] X.env=[(false,eval e X.env)]:=by rfl)(A3:(backTo pos (starEach [] X.env)).any (·.1)=false:=by rfl):DE X (.Call (.Name "sum" p) [e] [] pos) (Dm.eB Dm.mh fs):=uE (uO hc) Ad PyProof.Rows.boot_sum hg hm ha (he:=he) (A3:=A3)
end
structure Ae(K:gb)(x qual:Str)(st:Stmt)(f:Addr)(fd:FuncData):Prop where
 ex:∃(oc:Value) (od:Option Addr) (dV kV doc pm:Value) (an:Option Addr) (cdv ct:Value) (osl:Array (Option Value)),
  fd=K1 x qual (aR st) (aH st) (aa st) dV kV doc pm an cdv ct/\K.lookup f=some ⟨oc,od,.func fd,osl⟩/\Mj K cdv qual=true
 kp:Le K (.ref f)=true
section
variable{P:Program}{w:World}{K:gb}{mg:Str->Option Value}{base:Heap}
theorem Af{x qual:Str}{st:Stmt}{f:Addr}{oc:Value}{od an:Option Addr}{osl:Array (Option Value)}{dV kV doc pm cdv ct:Value}(l:K.lookup f=some ⟨oc,od,.func (K1 x qual (aR st) (aH st) (aa st) dV kV doc pm an cdv ct),osl⟩)
  (c:Mj K cdv qual=true) (k:Le K (.ref f)=true):Ae K x qual st f (K1 x qual (aR st) (aH st) (aa st) dV kV doc pm an cdv ct):=⟨⟨oc,od,dV,kV,doc,pm,an,cdv,ct,osl,rfl,l,c⟩,k⟩
end
theorem Ag{g:List Dat->Option RV}{c:Int}{vs:List V}{H:Hp}{Q:VK}{E:XK}(h:spD (fun ds=>g (ds++[.int c])) vs H Q E):spD g (vs++[.int c]) H Q E:=by obtain⟨H0,ds,z,s,r,e,k⟩:=h;exact⟨H0,ds++[.int c],z,s,r.append (.cons (.int _) .nil),e,k⟩
section
variable{σ:L2.St}{H:Hp}{Q:VK}
theorem Ah{g:List Dat->Option RV}{c:Int}{fs:List FE}{E:XK}(h:tD (Dm.eF (fun ds=>g (ds++[.int c])) fs) σ H Q):fZ (spD g) [.int c] E (tDA fs) σ H Q:=by obtain⟨H0,ρ,xs,ρ',st,e,k⟩:=nE (E:=E) h;refine⟨H0,ρ,xs,ρ',st,e,fun vs H0' H' t r=>?_⟩;have:=k vs H0' H' t r;dsimp only at this;rw[K4]at this;exact Ag this
end
end Br
namespace Dm
noncomputable abbrev FN:=Env->List (List Dat)->Option (Env×List (List Dat))
noncomputable def Kl(i e:FE):FN:=fun ρ r=>match i ρ with
 | some (.val (.int k),ρ1)=>(match ixN r.length k with
  |none=>none
  |some m=>match r[m]? with
   |none=>none
   |some row=>match e ρ1 with
    |none=>none
    |some (x,ρ2)=>match tk ρ2 x with
     |none=>none
     |some (d,ρ3)=>if row.length<SZ then some (ρ3,r.set m (row++[d])) else none)
 |_=>none
noncomputable def h_:Dat->Dat->Option RV
 |.int i,.int j=>if i.natAbs.log2<1000000/\j.natAbs.log2<1000000 then vI (i*j) else none
 |_,_=>none
noncomputable def gA(lo k:Int)(n:Nat):List Dat:=(KY n).map fun i=>Dat.int (lo+(i:Nat)*k)
noncomputable def cF(i j k:Int):Nat:=if i<j then ((j-i-1) / k+1).toNat else 0
noncomputable def iRs(a b c:FE):FI:=fun ρ=>match a ρ with
 | some (.val (.int i),ρ1)=>(match b ρ1 with
  | some (.val (.int j),ρ2)=>(match c ρ2 with
   |some (.val (.int k),ρ3)=>if (0<k/\k<=1000)/\j<=BIG/\-BIG<=j/\i<=BIG/\-BIG<=i then some (gA i k (cF i j k),ρ3) else none
   |_=>none)
  |_=>none)
 |_=>none
noncomputable def iX:List Val->Option (List Dat)
 |[]=>some []
 |.val d::r=>(iX r).map fun ds=>d::ds
 |_=>none
noncomputable def eFn(f:List Dat->Option (RV×Dat))(e0:FE)(as:List FE):FE:=fun ρ=>match eAs (e0::as) ρ with
 | some (.new d::xs,ρ1)=>(match iX xs with
  |none=>none
  |some ds=>match f (d::ds) with
   |none=>none
   |some (v,_)=>some (v.bF,ρ1))
 |_=>none
end Dm
namespace Br
open PySem PySem.Spec PyProof.Rows L2
theorem mq:∀{its:List Value} {ns:List Int},IntsAre its ns->Vals (ns.map V.int) its
 |_,_,.nil=>.nil
 |_,_,.cons n t h=>.cons ⟨t,rfl⟩ (mq h)
section
variable{X:Cx}{a b c e:Expr}{fa fb fc:FE}{p pos:Pos}
theorem bits_le{i:Int}(h:i.natAbs.log2<1000000):Nd i<=2 ^ 20:=by
 have:Nd i<=i.natAbs.log2+1:=by
  unfold Nd
  first | lia | (split<;>lia) | simp
 lia
def Cc(i j:Int):Prop:=i.natAbs.log2<1000000/\j.natAbs.log2<1000000
theorem Ai:OpR X (binaryOp .Mult) (rI Cc fun i j=>.int (i*j)):=opI fun _ _ _ _ _ _ _ hc q=>mul_int q (.of_bits (bits_le hc.1) (bits_le hc.2))
theorem Aj:OpD (rI Cc fun i j=>.int (i*j)) Dm.h_:=by
 intro H0 H x y dx dy z Q s rx ry e k;unfold Dm.h_ at e;split at e
 ·split at e
  case isFalse=>cases e
  rename_i hb;cases e;cases ay rx;cases ay ry;exact⟨_,_,rfl,rfl,hb,k _ H0 H (aJ.refl s) (.int _)⟩
 ·cases e
theorem nV(ha:DE X a fa)(hb:DE X b fb):DE X (.BinOp a .Mult b pos) (Dm.e2 Dm.h_ fa fb):=pF Ai Aj ha hb
end
noncomputable def Its(lo k:Int)(n:Nat):It:=⟨fun i _=>i<n,fun i H x H'=>H'=H/\x=.int (lo+(i:Nat)*k),fun i _=>n<=i⟩
theorem qU{P:Program}{w:World}{K:gb}{tg:Expr}(it:Addr)(lo k:Int)(n:Nat):Turn P w K tg (Its lo k n) [it] it (fun i h=>IsRangeIter h it (lo+(i:Nat)*k) ((n:Int)-(i:Nat)) k) where
 mem:=by simp
 obj:=fun i h st b hb=>by
  have e:b=it:=by simpa using hb
  subst e;exact ⟨_,st,fun v z=>by have z':NQ _=Nl v:=z;cases z'⟩
 keep:=fun i h h' st k=>k it (by simp) _ st
 item:=by intro X hP hw hK hc i jn s σ H E I hf st hg;subst hP hw hK;obtain⟨f0,f1,f2,f3,f4,f5⟩:=hf it (by simp);have W:=Walks.range (prog:=X.prog) (w:=X.w) (I.ok.hd hc) it lo k n;refine W.item i s _ _ hg st fun v h' tk hv st' kk=>?_;obtain⟨t,rfl⟩:=hv;have I1:Inv X jn σ H { s with heap:=h',toks:=tk }:=I.turned (fun b o hb e=>kk b o (by simpa using hb) e) f0 f1 f3 f4 f5;exact⟨_,rfl,oX (s:={ s with heap:=h',toks:=tk }) (n := "range_iterator") st' rfl rfl (by decide) ⟨.int (lo+(i:Nat)*k),H,I1,⟨t,rfl⟩,⟨rfl,rfl⟩,st',fun b hb=>(hf b hb).1⟩⟩
 done:=by intro X hP hw hK hc i jn s σ H E I hf st hg;subst hP hw hK;obtain⟨f0,f1,f2,f3,f4,f5⟩:=hf it (by simp);exact wpAny_pyNext_range_end (I.ok.hd hc) st (by have:n<=i:=hg;lia) fun h' eb=>⟨rfl,I.turned (t':=s.toks) (fun b o hb e=>eb b o hb e) f0 f1 f3 f4 f5⟩
 self:=fun _ _ _ _ _ st h=>wpAny_pyIter_rangeiter st h
theorem sZ{a k:Int}(hk:0<k)(h:0<=a):0<=a / k/\a / k<=a:=⟨Int.ediv_nonneg h (by lia),by
 have:=Int.ediv_mul_le a (b:=k) (by lia);have h2:0<=a / k:=Int.ediv_nonneg h (by lia);have:(a / k)*1<=(a / k)*k:=Int.mul_le_mul_of_nonneg_left (by lia) h2
 lia⟩
theorem ic(a b k:Int)(hk:0<k):L4 a b k=(Dm.cF a b k:Nat):=by
 unfold L4 Dm.cF;simp only[hk,show (k>0)=True from eq_true hk,if_true];by_cases h:a<b
 ·have:=sZ hk (show 0<=b-a-1 by lia);simp only[h,show (a<b)=True from eq_true h,if_true]
  first | lia | (split<;>lia)
 ·simp only[show (a<b)=False from eq_false h,if_false]
  first | lia | (split<;>lia) | simp
theorem w6{a b k:Int}(hk:0<k)(hk':k<=1000)(ha:-(2 ^ 60)<=a)(ha':a<2 ^ 60)(hb:-(2 ^ 60)<=b)(hb':b<2 ^ 60):Builtin.Range.small a b k=true:=by
 unfold Builtin.Range.small;rw[ic a b k hk];have hs:(Dm.cF a b k:Int)<=2 ^ 61:=by
  unfold Dm.cF;split
  ·have:=sZ hk (show 0<=b-a-1 by lia)
   lia
  ·lia
 simp only[Builtin.Range.rangeFitsLong,K5,NL,decide_eq_true_eq,beq_iff_eq,show (k>0)=True from eq_true hk,if_true]
 first | lia | (refine⟨?_,?_⟩<;>lia) | (split<;>lia)
section
variable{X:Cx}{tg:Expr}
def Cd(ta:TA):TI:=fun σ H R=>ta σ H fun vs H1=>∃i j k:Int,vs=[.int i,.int j,.int k]/\(0<k/\k<=1000)/\(-(2 ^ 60)<=i/\i<2 ^ 60/\-(2 ^ 60)<=j/\j<2 ^ 60)/\R (Its i k (Dm.cF i j k)) H1
theorem uP{a b c:Expr}{ta:TA}{p pos:Pos}(hg:Gl X "range")(hm:X.mg "range" = none)(ha:PA X [a,b,c] ta)(hs:starEach [a,b,c] X.env=(false,eval a X.env)::starEach [b,c] X.env:=by rfl)(hs2:(backTo pos (starEach [b,c] X.env)).any (·.1)=false:=by rfl) :
  PI X tg (.Call (.Name "range" p) [a,b,c] [] pos) (Cd ta):=by
 intro jn s σ H R I h;refine Call_ (cD I hg hm boot_range (K6 (thn (ha pos jn s σ H _ I h) fun us s1 ⟨vs,H1,I1,r1,q1⟩=>?_) hs hs2));obtain⟨i,j,k,e,⟨hk,hk'⟩,⟨q1,q2,q3,q4⟩,q⟩:=q1;subst e;cases r1 with
 |cons r rr=>
  cases rr with
  |cons r' rr=>
   cases rr with
   |cons r'' rr=>
   cases rr;obtain⟨t,rfl⟩:=r;obtain⟨t',rfl⟩:=r';obtain⟨t'',rfl⟩:=r'';refine call_range_3 (by simp;lia) ?_ (Or.inl (PyProof.noPylong_small (by lia)));refine wpAny_pyIter_range (IsRange.new ..) (w6 hk hk' q1 q2 q3 q4) ?_;have I2:Inv X jn σ H1 { s1 with heap:=s1.heap.push { cls:=.type "range",data:=.fields #[.int i t,.int j t',.int k t''] },toks:=s1.toks }:=I1.kept fun b o e=>Ds _ e;refine ⟨(s1.heap.push { cls:=.type "range",data:=.fields #[.int i t,.int j t',.int k t''] }).objs.size,[(s1.heap.push { cls:=.type "range",data:=.fields #[.int i t,.int j t',.int k t''] }).objs.size],_,_,H1,rfl,
    I2.kept (t':=s1.toks) fun b o e=>Ds _ e,qU _ i k (Dm.cF i j k),?_,fun b hb=>?_,q⟩
   ·have e1:i+((0:Nat):Int)*k=i:=by simp
    have e2:((Dm.cF i j k:Nat):Int)-((0:Nat):Int)=L4 i j k:=by rw[ic i j k hk];lia
    show IsRangeIter _ _ (i+((0:Nat):Int)*k) (((Dm.cF i j k:Nat):Int)-((0:Nat):Int)) k;rw[e1,e2];exact KU _ rfl
   ·have e:b=(s1.heap.push { cls:=.type "range",data:=.fields #[.int i t,.int j t',.int k t''] }).objs.size:=by simpa using hb
    subst e;exact I2.oW (Nat.le_refl _) (I2.hok.fresh (Nat.le_refl _))
theorem w_{H0:Hp}{lo k:Int}{n:Nat}:JW (Its lo k n) H0 (Dm.gA lo k n):=by
 intro H0' H s0 s1;have el:(Dm.gA lo k n).length=n:=by simp[Dm.gA]
 refine⟨fun i hi=>by rw[el]at hi;exact hi,fun i d e=>?_⟩;have Cs:i<n:=by have:=(pe.mp e).1;rw[el]at this;exact this
 have hd:d=.int (lo+(i:Nat)*k):=by unfold Dm.gA at e;rw[KZ,Mm Cs]at e;exact(Option.some.inj e).symm
 refine⟨Cs,fun x H' y=>?_⟩;obtain⟨rfl,rfl⟩:=y;subst hd;exact⟨H0',aJ.refl s1,.int _⟩
theorem HM{σ:L2.St}{H:Hp}{R:It->Hp->Prop}{f g c:FE}(h:tDI (Dm.iRs f g c) σ H R):Cd (tDA [f,g,c]) σ H R:=by
 obtain⟨H0,ρ,ys,ρ',st,e,k⟩:=h;unfold Dm.iRs at e;split at e
 ·rename_i i ρ1 e1;split at e
  ·rename_i j ρ2 e2;split at e
   ·rename_i l ρ3 e3;split at e
    ·rename_i hb;cases e;refine⟨H0,ρ,[.val (.int i),.val (.int j),.val (.int l)],_,st,by simp only[Dm.eAs,e1,e2,e3];rfl,fun vs H0' H' t r=>?_⟩;cases r with
     |cons r rr=>
      cases rr with
      |cons r' rr=>
       cases rr with
       |cons r'' rr=>cases rr;cases Rep.isInt r;cases Rep.isInt r';cases Rep.isInt r'';obtain⟨h0,h1,h2,h3,h4⟩:=hb;unfold Dm.BIG at h1 h2 h3 h4;exact⟨i,j,l,rfl,h0,⟨by lia,by lia,by lia,by lia⟩,k _ H0' H' t w_⟩
    ·cases e
   ·cases e
  ·cases e
 ·cases e
theorem JR{a b c:Expr}{fa fb fc:FE}{p pos:Pos}(hg:Gl X "range")(hm:X.mg "range" = none)(ha:DA X [a,b,c] [fa,fb,fc])(hs:starEach [a,b,c] X.env=(false,eval a X.env)::starEach [b,c] X.env:=by rfl)(hs2:(backTo pos (starEach [b,c] X.env)).any (·.1)=false:=by rfl) :
  DI X tg (.Call (.Name "range" p) [a,b,c] [] pos) (Dm.iRs fa fb fc):=PI.weak (uP hg hm ha hs hs2) fun _ _ _=>HM
end
theorem mw{Hs H0 H:Hp}{σ:L2.St}{ρ:Dm.Env}:∀{xs:List Dm.Val} {vs:List V} {ds:List Dat},br Hs H0 H σ ρ vs xs->Dm.iX xs=some ds->av H0 vs ds
 |[],_,_,.nil,e=>by cases e;exact .nil
 |.val d::xs,_,ds,.cons h r,e=>by
  unfold Dm.iX at e;cases q:Dm.iX xs with
  |none=>rw[q]at e;cases e
  |some es=>rw[q]at e;cases e;exact .cons h (mw r q)
 |.new _::_,_,_,_,e=>by cases e
 |.slot _::_,_,_,_,e=>by cases e
theorem Ak{σ:L2.St}{H:Hp}{Q:VK}{f:List Dat->Option (RV×Dat)}{f0:FE}{fs:List FE}{E:XK}(h:tD (Dm.eFn f f0 fs) σ H Q):fZ (spM f) [] E (tDA (f0::fs)) σ H Q:=by
 obtain⟨H0,ρ,x,ρ',st,e,k⟩:=h;unfold Dm.eFn at e;split at e
 case h_2=>cases e
 rename_i d xs ρ1 e1;split at e
 ·cases e
 rename_i ds e2;split at e
 ·cases e
 rename_i z d' fz;cases e;refine⟨H0,ρ,_,_,st,e1,fun vs H1 Hb t1 r1=>?_⟩;dsimp only;rw[K4];cases r1 with
 |cons r0 rr=>
  obtain⟨a,rfl,n,no,n0,w⟩:=r0;obtain⟨oa,ha⟩:=w.some;refine⟨H1,a,_,d,ds,z,d',rfl,t1.st.same,n0,w,mw rr e2,fz,fun v H3 Hd s3 ss n3 w3 r3=>?_⟩;have st3:ak H3 Hd σ ρ':=t1.st.off s3.s0 ss no (fun b o y nb=>s3.s1 b o y nb) fun i d4 b y1 y2=>by
   obtain⟨b',q',nb',w'⟩:=t1.st.ow i d4 y1;rw[y2]at q';cases q';cases y:H3 b with
   |none=>rfl
   |some o=>
    obtain⟨o',z'⟩:=w'.some;rcases s3.s2 b o y with y3 | y3 | y3
    ·rw[y3]at z';cases z'
    ·rw[nb']at y3;cases y3
    ·exact absurd ⟨i,d4,y1,y3▸y2⟩ no
  exact k v H3 Hd ⟨st3,t1.stp.trans s3 fun b y=>.inr (by rw[y];exact n),t1.own,t1.dfn⟩ ((r3.toV t1.st).early fun b y=>t1.stp.gone y)
theorem Al{X:Cx}{e0:Expr}{es:List Expr}{p pos:Pos}{k:Nat}{F:Addr}{fd:FuncData}{ps:List Str}{g:List Dat->Option (RV×Dat)}{x:Str}{f0:FE}{fs:List FE}(G:aO X.prog X.w X.K X.mg X.base CX0 k F fd ps (spM g))(hr:aV k X.A)(hg:Gl X x)(hm:X.mg x=some (.ref F))(hk:Le X.K (.ref F)=true)(hb:Binds X.K fd ps [])
  (ha:DA X (e0::es) (f0::fs)) (FF:(x == ("__debug__" : Str))=false:=by decide) (he:starEach (e0::es) X.env=(false,eval e0 X.env)::starEach es X.env:=by rfl) (A3:(backTo pos (starEach es X.env)).any (·.1)=false:=by rfl) :
  DE X (.Call (.Name x p) (e0::es) [] pos) (Dm.eFn g f0 fs):=PE.weak (dh G hr hg hm hk hb .nil (gT (X:=X)) ha FF he A3) fun _ _ _=>Ak
open PySem
variable{C:List Value->Prop}{us:List Value}
theorem len0(h:us.length=0)(c:C []):C us:=by rw[List.eq_nil_of_length_eq_zero h];exact c
theorem E2{n:Nat}{C:List Value->Prop}{us:List Value}(h:us.length=n+1)(c:∀a us,us.length=n->C (a::us)):C us:=by
 cases us with
 |nil=>cases h
 |cons a us=>exact c a us (by simpa using h)
theorem xg(h:us.length=1)(c:∀a,C [a]):C us:=E2 h fun a _ h=>len0 h (C:=fun us=>C (a::us)) (c a)
theorem wO(h:us.length=2)(c:∀a b,C [a,b]):C us:=E2 h fun a _ h=>xg h (C:=fun us=>C (a::us)) (c a)
theorem JS(h:us.length=3)(c:∀a b d,C [a,b,d]):C us:=E2 h fun a _ h=>wO h (C:=fun us=>C (a::us)) (c a)
end Br
namespace L2
open PySem
variable{K:gb}{x qual:Str}{st:Stmt}{f:Addr}{fd:FuncData}{ps:List Str}
theorem Fun.aL(F:Fun K x qual st f fd)(hp:ps.length=1)(h:∀(kV doc pm:Value) (an:Option Addr) (cdv ct:Value) (a:Value),bindArgs (K1 x qual (aR st) (aH st) (aa st) .none kV doc pm an cdv ct) ⟨[a],[]⟩=pure (ps.zip [a])):Binds K fd ps []:=
 F.binds fun kV doc pm an cdv ct us hl=>Br.xg (C:=fun us=>bindArgs (K1 x qual (aR st) (aH st) (aa st) .none kV doc pm an cdv ct) ⟨us,[]⟩=pure (ps.zip us)) (hl.trans hp) (h kV doc pm an cdv ct)
theorem Fun.aM(F:Fun K x qual st f fd)(hp:ps.length=2)(h:∀(kV doc pm:Value) (an:Option Addr) (cdv ct:Value) (a b:Value),bindArgs (K1 x qual (aR st) (aH st) (aa st) .none kV doc pm an cdv ct) ⟨[a,b],[]⟩=pure (ps.zip [a,b])):Binds K fd ps []:=
 F.binds fun kV doc pm an cdv ct us hl=>Br.wO (C:=fun us=>bindArgs (K1 x qual (aR st) (aH st) (aa st) .none kV doc pm an cdv ct) ⟨us,[]⟩=pure (ps.zip us)) (hl.trans hp) (h kV doc pm an cdv ct)
theorem Fun.aN(F:Fun K x qual st f fd)(hp:ps.length=3)(h:∀(kV doc pm:Value) (an:Option Addr) (cdv ct:Value) (a b d:Value),bindArgs (K1 x qual (aR st) (aH st) (aa st) .none kV doc pm an cdv ct) ⟨[a,b,d],[]⟩=pure (ps.zip [a,b,d])):Binds K fd ps []:=
 F.binds fun kV doc pm an cdv ct us hl=>Br.JS (C:=fun us=>bindArgs (K1 x qual (aR st) (aH st) (aa st) .none kV doc pm an cdv ct) ⟨us,[]⟩=pure (ps.zip us)) (hl.trans hp) (h kV doc pm an cdv ct)
end L2
namespace Br
open PySem PySem.Spec PyProof.Rows L2
noncomputable def kw1{α:Type}(n:Nat)(us ws:List α):List α:=if us.length=n/\ws.length=1 then us++ws else []
theorem E3(n:Nat){vs zs:List V}{us ws:List Value}(r:Vals vs us)(q:Vals zs ws):Vals (kw1 n vs zs) (kw1 n us ws):=by
 unfold kw1;rw[r.length,q.length];split
 ·exact r.append q
 ·exact .nil
section
variable{prog:Program}{w:World}{A:Around}{E:Value->Shared->Prop}{s:Shared}
theorem E4{a b:Int}{t u:Tok}{Q:Value->Shared->Prop}(q:Q (.bool (decide (a<b))) s):wpAny (model prog w) A (richCompare .Lt (.int a t) (.int b u)) Q E s:=
 CmpOf.ints_lt (P:=fun i v=>∃t,v=.int (if i=0 then a else b) t) (fun i=>if i=0 then a else b) (fun i v h=>h) 0 1 _ _ s Q E ⟨t,rfl⟩ ⟨u,rfl⟩ q
noncomputable def HN(a b:Value):Sem PySem.Fin:=do
  let p <- slotArgs "__lt__" 1 { pos:=[a,b] }
  match p with
  |(a,[b])=>do
   if !(<- PySem.isInstance b (.type "tuple")) then return <- ret .notImplemented
   let xs <- Builtin.Tuple.tupleItemsOf a
   let ys <- Builtin.Tuple.tupleItemsOf b
   for (x,y) in xs.toList.zip ys.toList do
    if !(<- eqBool x y) then
     match CmpOp.Lt with
     |.Eq=>return <- ret (.bool false)
     |.NotEq=>return <- ret (.bool true)
     |_=>do
      rule "tuple.compare.by-the-first-pair-that-differs"
      return <- ret (<- richCompare .Lt x y)
   ret (Mp .Lt xs.size ys.size)
  |_=>unsupported "internal:tuple.compare"
theorem E5(a b:Value):Builtin.«tuple.__lt__» { pos:=[a,b] }=HN a b:=rfl
theorem pV{B:Value×Value->Option PySem.Fin×Unit->Sem (ForInStep (Option PySem.Fin×Unit))}
  (hB:∀(n m:Int) (t u:Tok) (K:ForInStep (Option PySem.Fin×Unit)->Shared->Prop),(if n=m then K (.yield (none,())) s else K (.done (some (.done (.ret (.bool (decide (n<m))))),())) s)->wpAny (model prog w) A (B (.int n t,.int m u) (none,())) K E s)
  {K:Option PySem.Fin×Unit->Shared->Prop}:∀{xs ys:List Value} {ks ms:List Int},IntsAre xs ks->IntsAre ys ms ->
  (∀r,(r=none->Dm.lx ks ms=decide (ks.length<ms.length))->(∀f,r=some f->f=.done (.ret (.bool (Dm.lx ks ms))))->K (r,()) s) ->
  wpAny (model prog w) A (forIn (xs.zip ys) (none,()) B) K E s
 |_,_,_,_,.nil,.nil,k=>wpAny_pure (k none (fun _=>by simp[Dm.lx]) fun _ h=>by cases h)
 |_,_,_,_,.nil,.cons m u h',k=>wpAny_pure (k none (fun _=>by simp[Dm.lx]) fun _ h=>by cases h)
 |_,_,_,_,.cons n t h,.nil,k=>wpAny_pure (k none (fun _=>by simp[Dm.lx]) fun _ h=>by cases h)
 |_,_,_,_,.cons n t h,.cons m u h',k=>by
  rw[Lw,NK];refine wpAny_bind (hB n m t u _ ?_);by_cases e:n=m
  ·rw[if_pos e];refine pV hB h h' fun r h1 h2=>k r (fun z=>?_) fun f z=>?_
   ·rw[Dm.lx,if_pos e,h1 z];simp
   ·rw[Dm.lx,if_pos e];exact h2 f z
  ·rw[if_neg e];refine wpAny_pure (k _ (fun z=>by cases z) fun f z=>?_);injection z with z
   rw[<- z,Dm.lx,if_neg e]
theorem E6{a b:Addr}{oa ob:Obj}{xs ys:List Value}{ks ms:List Int}{na nb:Nat}(ha:s.heap.get? a=some oa)(ca:oa.cls=.type "tuple")(da:oa.data=.seq xs.toArray na)(ia:IntsAre xs ks)
  (hb:s.heap.get? b=some ob) (cb:ob.cls=.type "tuple") (db:ob.data=.seq ys.toArray nb) (ib:IntsAre ys ms) (hu:A.units<cLine) {Q:Value->Shared->Prop} (q:Q (.bool (Dm.lx ks ms)) s) :
  wpAny (model prog w) A (richCompare .Lt (.ref a) (.ref b)) Q E s:=by
 have ta:s.TypeIs (.ref a) "tuple" := ⟨oa,ha,ca⟩
 have tb:s.TypeIs (.ref b) "tuple" := ⟨ob,hb,cb⟩
 refine wpAny_richCompare_same_or ta tb F.slot_tuple_lt ?_ (.inr hu);refine wpAny_call_entry F.slot_tuple_lt ta F.entry_tuple_lt ?_;rw[E5];unfold HN;refine wpAny_bind (wpAny_of_eq (show slotArgs "__lt__" 1 { pos:=[.ref a,.ref b] }=pure (.ref a,[.ref b]) from rfl) ?_);refine wpAny_bind (wpAny_isInstance tb (b:=true) rfl ?_);refine wpAny_bind (wpAny_tupleItemsOf ha da ?_);refine wpAny_bind (wpAny_tupleItemsOf hb db ?_);refine wpAny_bind (pV (fun n m t u K hk=>?_) ia ib fun r h1 h2=>?_)
 ·refine wpAny_bind (wpAny_eqBool_int ?_);by_cases e:n=m
  ·rw[if_pos e]at hk;have:(n == m)=true:=by simpa using e
   rw[this];exact wpAny_pure hk
  ·rw[if_neg e]at hk;have:(n == m)=false:=by simpa using e
   rw[this];refine wpAny_bind (wpAny_rule ?_);refine wpAny_bind (E4 ?_);exact wpAny_bind (wpAny_pure (wpAny_pure hk))
 cases r with
 |none=>refine wpAny_pure ⟨_,rfl,(by simp[Mp]),?_⟩;rw[Ky,Ky,ia.length,ib.length,Mp.eq_3,<- h1 rfl];exact q
 |some f=>refine wpAny_pure ⟨_,h2 f rfl,(by simp),q⟩
end
end Br
namespace Dm
inductive Dp where
 |s (d:Dat)
 |l (xs:List Dp)
 |t (xs:List Dp)
mutual
noncomputable def Dp.dat:Dp->Dat
 |.s d=>d
 |.l xs=>.lst (Dp.bR xs)
 |.t xs=>.tup (Dp.bR xs)
noncomputable def Dp.bR:List Dp->List Dat
 |[]=>[]
 |x::r=>x.dat::Dp.bR r
end
theorem Dp.bJ:∀xs:List Dp,Dp.bR xs=xs.map Dp.dat
 |[]=>rfl
 |x::r=>by rw[Dp.bR,Dp.bJ r];rfl
theorem Dp.qV(ds:List Dat):Dp.bR (ds.map Dp.s)=ds:=by rw[Dp.bJ,Lq];exact(ME fun d _=>rfl).trans (MX ds)
noncomputable abbrev FP:=Env->Option (Dp×Env)
noncomputable def pO(f:FE):FP:=fun ρ=>match f ρ with
 |some (.val d,ρ1)=>some (.s d,ρ1)
 |some (.new (.lst ds),ρ1)=>some (.l (ds.map .s),ρ1)
 | some (.slot i,ρ1)=>(match ρ1[i]? with
  |some (.ow (.lst ds))=>some (.l (ds.map .s),ρ1.set i .un)
  |some (.sh d)=>some (.s d,ρ1)
  |_=>none)
 |_=>none
noncomputable def pAs:List FP->Env->Option (List Dp×Env)
 |[],ρ=>some ([],ρ)
 |f::r,ρ=>match f ρ with
  |none=>none
  |some (x,ρ1)=>match pAs r ρ1 with
   |none=>none
   |some (xs,ρ2)=>some (x::xs,ρ2)
noncomputable def pT(fs:List FP):FP:=fun ρ=>match pAs fs ρ with
 |none=>none
 |some (ps,ρ1)=>if ps.length<=SZ then some (.t ps,ρ1) else none
noncomputable abbrev FSP:=Env->Option Dp
noncomputable def qR(f:FP):FSP:=fun ρ=>match f ρ with
 |none=>none
 |some (p,_)=>some p
noncomputable def nW(s:FS)(g:FSP):FSP:=fun ρ=>match s ρ with
 |some (.nx ρ1)=>g ρ1
 |_=>none
noncomputable def fnP(n m:Nat)(g:FSP)(ds:List Dat):Option Dp:=if ds.length=n then g (ds.map Cell.sh++Dk m .un) else none
noncomputable def shC:Cell->Cell
 |.ow d=>.sh d
 |c=>c
noncomputable def pW(ρ:Env):Env:=ρ.map shC
noncomputable abbrev FM:=Env->Dp->Option Out
noncomputable def see(j:Nat)(ρ:Env)(p:Dp):Env:=pW (ρ.set j (.sh p.dat))
noncomputable def mz(j:Nat)(f:List Dat->Option Dp)(as:List FE)(g:FM):FS:=fun ρ=>if j=0 then none else match eAs as ρ with
 |none=>none
 |some (xs,ρ1)=>match tks ρ1 xs with
  |none=>none
  |some (ds,ρ2)=>match f ds with
   |none=>none
   |some p=>g (ρ2.set j .un) p
noncomputable def mIf(j:Nat)(t:FT)(fs:FS)(g:FM):FM:=fun ρ p=>match t (see j ρ p) with
 |none=>none
 | some (true,_)=>(match fs ρ with
  |some (.nx _)=>none
  |o=>o)
 |some (false,_)=>g ρ p
end Dm
namespace Br
open PySem PySem.Spec PyProof.Rows L2
mutual
inductive bQ(N:Addr->Prop)(H0 H:Hp):V->Dm.Dp->List Addr->Prop
 |s {v:V} {d:Dat}:Rep H0 v d->bQ N H0 H v (.s d) []
 |l {a:Addr} {vs:List V} {ps:List Dm.Dp} {fp:List Addr}:N a->H a=some (.lst vs)->aG N H0 H vs ps fp->bQ N H0 H (.ref a) (.l ps) (a::fp)
 |t {a:Addr} {vs:List V} {ps:List Dm.Dp} {fp:List Addr}:N a->H a=some (.tup vs)->aG N H0 H vs ps fp->bQ N H0 H (.ref a) (.t ps) fp
inductive aG(N:Addr->Prop)(H0 H:Hp):List V->List Dm.Dp->List Addr->Prop
 |nil:aG N H0 H [] [] []
 |cons {v:V} {p:Dm.Dp} {f:List Addr} {vs:List V} {ps:List Dm.Dp} {fp:List Addr}:bQ N H0 H v p f->aG N H0 H vs ps fp->aG N H0 H (v::vs) (p::ps) (f++fp)
end
section
variable{N N':Addr->Prop}{H0 H H0' H':Hp}
mutual
theorem bQ.mono(s:ah H0 H0')(kn:∀a,N a->N' a)(kt:∀a vs,N a->H a=some (.tup vs)->H' a=some (.tup vs)):∀{v:V} {p:Dm.Dp} {fp:List Addr},bQ N H0 H v p fp->(∀a∈fp,H' a=H a)->bQ N' H0' H' v p fp
 |_,_,_,.s r,_=>.s (r.mono s)
 |_,_,_,.l n h r,k=>.l (kn _ n) ((k _ Kz).trans h) (aG.mono s kn kt r fun b hb=>k b (Kw _ hb))
 |_,_,_,.t n h r,k=>.t (kn _ n) (kt _ _ n h) (aG.mono s kn kt r k)
theorem aG.mono(s:ah H0 H0')(kn:∀a,N a->N' a)(kt:∀a vs,N a->H a=some (.tup vs)->H' a=some (.tup vs)):∀{vs:List V} {ps:List Dm.Dp} {fp:List Addr},aG N H0 H vs ps fp->(∀a∈fp,H' a=H a)->aG N' H0' H' vs ps fp
 |_,_,_,.nil,_=>.nil
 |_,_,_,.cons h r,k=>.cons (bQ.mono s kn kt h fun a ha=>k a (Lv _ ha)) (aG.mono s kn kt r fun a ha=>k a (KQ _ ha))
end
mutual
theorem bQ.fpN:∀{v:V} {p:Dm.Dp} {fp:List Addr},bQ N H0 H v p fp->∀a∈fp,N a/\∃xs,H a=some (.lst xs)
 |_,_,_,.s _,_,h=>by cases h
 |_,_,_,.l n h r,a,ha=>by
  rcases KD.mp ha with rfl | ha
  ·exact⟨n,_,h⟩
  ·exact aG.fpN r a ha
 |_,_,_,.t n h r,a,ha=>aG.fpN r a ha
theorem aG.fpN:∀{vs:List V} {ps:List Dm.Dp} {fp:List Addr},aG N H0 H vs ps fp->∀a∈fp,N a/\∃xs,H a=some (.lst xs)
 |_,_,_,.nil,_,h=>by cases h
 |_,_,_,.cons h r,a,ha=>(K3.mp ha).elim (bQ.fpN h a) (aG.fpN r a)
end
mutual
theorem bQ.rep(s:ah H0 H0')(k:∀a o,N a->H a=some o->H0' a=some o):∀{v:V} {p:Dm.Dp} {fp:List Addr},bQ N H0 H v p fp->Rep H0' v p.dat
 |_,_,_,.s r=>r.mono s
 |_,_,_,.l n h r=>.lst (.inl (k _ _ n h)) (aG.rep s k r)
 |_,_,_,.t n h r=>.tup (k _ _ n h) (aG.rep s k r)
theorem aG.rep(s:ah H0 H0')(k:∀a o,N a->H a=some o->H0' a=some o):∀{vs:List V} {ps:List Dm.Dp} {fp:List Addr},aG N H0 H vs ps fp->av H0' vs (Dm.Dp.bR ps)
 |_,_,_,.nil=>.nil
 |_,_,_,.cons h r=>.cons (bQ.rep s k h) (aG.rep s k r)
end
theorem aG.nX:∀{vs:List V} {ds:List Dat},av H0 vs ds->aG N H0 H vs (ds.map .s) []
 |_,_,.nil=>.nil
 |_,_,.cons h r=>.cons (.s h) (aG.nX r)
theorem aG.length:∀{vs:List V} {ps:List Dm.Dp} {fp:List Addr},aG N H0 H vs ps fp->vs.length=ps.length
 |_,_,_,.nil=>rfl
 |_,_,_,.cons _ r=>by rw[Li,Li,aG.length r]
end
theorem ak.xh{H0 H:Hp}{σ:L2.St}{ρ:Dm.Env}{a:Addr}{vs:List V}(st:ak H0 H σ ρ)(h:H a=some (.tup vs)):¬ai σ ρ a:=fun⟨i,d,h1,h2⟩=>by
 obtain⟨b,q,n,w⟩:=st.ow i d h1;rw[h2]at q;cases q;cases d with
 |lst ds=>obtain⟨xs,y,_⟩:=w;rw[h]at y;cases y
 |dct ks ds=>obtain⟨xs,y,_⟩:=w;rw[h]at y;cases y
 |dcp ks ds=>obtain⟨xs,y,_⟩:=w;rw[h]at y;cases y
 |_=>exact w
theorem bQ.est{N:Addr->Prop}{σ:L2.St}{ρ ρ':Dm.Env}{H0 H H0' H':Hp}{v:V}{p:Dm.Dp}{fp:List Addr}(st:ak H0 H σ ρ)(t:ESt σ ρ H0 H ρ' H0' H')(r:bQ N H0 H v p fp)(k:∀a∈fp,H0 a=none/\¬ai σ ρ a) :
  bQ N H0' H' v p fp/\∀a∈fp,H0' a=none/\¬ai σ ρ' a:=by
 refine⟨r.mono t.stp.s0 (fun _ n=>n) (fun a vs _ h=>t.stp.s1 a _ h (st.xh h)) fun a ha=>?_,fun a ha=>?_⟩
 ·obtain⟨_,xs,h⟩:=r.fpN a ha;rw[(t.f6 h (k a ha).1 (k a ha).2).1,h]
 ·obtain⟨_,xs,h⟩:=r.fpN a ha;exact(t.f6 h (k a ha).1 (k a ha).2).2
def gB(σ:L2.St)(ρ:Dm.Env)(H:Hp)(a:Addr):Prop:=H a=none\/ai σ ρ a
def ko(σ:L2.St)(ρ:Dm.Env)(H0:Hp)(fp:List Addr):Prop:=fp.Nodup/\∀a∈fp,H0 a=none/\¬ai σ ρ a
def tDp(f:Dm.FP):TE:=fun σ H Q=>∃H0 ρ p ρ',ak H0 H σ ρ/\f ρ=some (p,ρ')/\∀v H0' H' fp,ESt σ ρ H0 H ρ' H0' H'->bQ (gB σ ρ H) H0' H' v p fp->ko σ ρ' H0' fp->Q v H'
def xj(fs:List Dm.FP):TA:=fun σ H Q=>∃H0 ρ ps ρ',ak H0 H σ ρ/\Dm.pAs fs ρ=some (ps,ρ')/\∀vs H0' H' fp,ESt σ ρ H0 H ρ' H0' H'->aG (gB σ ρ H) H0' H' vs ps fp->ko σ ρ' H0' fp->Q vs H'
noncomputable abbrev DP(X:Cx)(e:Expr)(f:Dm.FP):Prop:=PE X e (tDp f)
noncomputable abbrev DPA(X:Cx)(es:List Expr)(fs:List Dm.FP):Prop:=PA X es (xj fs)
section
variable{σ:L2.St}{H:Hp}{Q:VK}
theorem JT{f:FE}(h:tDp (Dm.pO f) σ H Q):tD f σ H Q:=by
 obtain⟨H0,ρ,p,ρ',st,e,k⟩:=h;unfold Dm.pO at e;split at e
 ·rename_i d ρ1 e1;cases e;exact⟨H0,ρ,_,_,st,e1,fun v H0' H' t r=>k v H0' H' [] t (.s r) ⟨NV,fun a h=>by cases h⟩⟩
 ·rename_i ds ρ1 e1;cases e;refine⟨H0,ρ,_,_,st,e1,fun v H0' H' t r=>?_⟩;obtain⟨a,rfl,n,no,n0,xs,y,rs⟩:=r;refine k _ H0' H' [a] t (.l (.inl n) y (.nX rs)) ⟨by simp,fun b hb=>?_⟩;rw[KS.mp hb];exact⟨n0,no⟩
 ·rename_i i ρ1 e1;split at e
  ·rename_i ds h1;cases e;refine⟨H0,ρ,_,_,st,e1,fun v H0' H' t r=>?_⟩;obtain⟨q,_⟩:=r;obtain⟨a,q',n0,xs,y,rs⟩:=t.st.ow i _ h1;rw[q]at q';cases q';have ow:ai σ ρ1 a:=⟨i,_,h1,q⟩
   refine k _ H0' H' [a] ⟨t.st.mask i,t.stp,fun b z=>?_,fun j z=>trivial⟩ (.l (.inr (t.own a ow)) y (.nX rs)) ⟨by simp,fun b hb=>?_⟩
   ·obtain⟨j,d2,_,z1,z2⟩:=bH z;exact t.own b ⟨j,d2,z1,z2⟩
   ·rw[KS.mp hb];refine⟨n0,fun z=>?_⟩;obtain⟨j,d2,hj,z1,z2⟩:=bH z;exact hj (t.st.dis j i d2 _ a z1 h1 z2 q)
  ·rename_i d h1;cases e;refine⟨H0,ρ,_,_,st,e1,fun v H0' H' t r=>?_⟩;obtain⟨q,_⟩:=r;obtain⟨u,q',w⟩:=t.st.sh i d h1;rw[q]at q';cases q';exact k _ H0' H' [] t (.s w) ⟨NV,fun a h=>by cases h⟩
  ·cases e
 ·cases e
theorem E7{Q:List V->Hp->Prop}(h:xj [] σ H Q):ur σ H Q:=by obtain⟨H0,ρ,xs,ρ',st,e,k⟩:=h;cases e;exact k [] H0 H [] (.refl st) .nil ⟨NV,fun a h=>by cases h⟩
theorem gB.back{σ:L2.St}{ρ ρ1:Dm.Env}{H0 H H1 Hb:Hp}(t:ESt σ ρ H0 H ρ1 H1 Hb){a:Addr}(n:gB σ ρ1 Hb a):gB σ ρ H a:=n.elim (fun z=>.inl (t.stp.gone z)) fun z=>.inr (t.own a z)
theorem ko.app{σ:L2.St}{ρ1 ρ2:Dm.Env}{H1 Hb H2 Hc:Hp}{f fp:List Addr}(hf:f.Nodup)(h1:∀a∈f,(∃o,Hb a=some o)/\¬ai σ ρ1 a)(h2:∀a∈f,H2 a=none/\¬ai σ ρ2 a)(g:ko σ ρ2 H2 fp)(gn:∀a∈fp,gB σ ρ1 Hb a):ko σ ρ2 H2 (f++fp):=by
 refine⟨MR.mpr ⟨hf,g.1,fun a ha b hb z=>?_⟩,fun a ha=>(K3.mp ha).elim (h2 a) (g.2 a)⟩;subst z;obtain⟨⟨o,q1⟩,q2⟩:=h1 a ha;rcases gn a hb with z | z
 ·rw[q1]at z;cases z
 ·exact q2 z
theorem Am{f:Dm.FP}{fs:List Dm.FP}{Q:List V->Hp->Prop}(h:xj (f::fs) σ H Q):jM (tDp f) (xj fs) σ H Q:=by
 obtain⟨H0,ρ,xs,ρ',st,e,k⟩:=h;unfold Dm.pAs at e;split at e
 ·cases e
 rename_i x1 ρ1 e1;split at e
 ·cases e
 rename_i xs1 ρ2 e2;cases e;refine⟨H0,ρ,x1,ρ1,st,e1,fun v H1 Hb f1 t1 r1 g1=>⟨H1,ρ1,xs1,_,t1.st,e2,fun vs H2 Hc f2 t2 r2 g2=>?_⟩⟩;obtain⟨m1,m2⟩:=r1.est t1.st t2 g1.2;refine k (v::vs) H2 Hc (f1++f2) (t1.trans t2) (.cons m1 (r2.mono (ah.refl _) (fun a n=>gB.back t1 n) (fun _ _ _ h=>h) fun _ _=>rfl)) (ko.app (H1:=H1) (Hc:=Hc) g1.1 (fun a ha=>⟨?_,(g1.2 a ha).2⟩) m2 g2 fun a ha=>(r2.fpN a ha).1);obtain⟨_,ys,h⟩:=r1.fpN a ha;exact⟨_,h⟩
theorem E8{fs:List Dm.FP}(h:tDp (Dm.pT fs) σ H Q):DK (xj fs) σ H Q:=by
 obtain⟨H0,ρ,x,ρ',st,e,k⟩:=h;unfold Dm.pT at e;split at e
 ·cases e
 rename_i ps ρ1 e1;split at e
 case isFalse=>cases e
 rename_i hz;cases e;refine⟨H0,ρ,ps,_,st,e1,fun vs H1 Hb fp t1 r1 g1=>⟨by rw[r1.length];exact fM hz,fun a ha=>?_⟩⟩;have g:=aJ.lu (o:=HO.tup vs) t1.st.same ha;have t2:=ESt.grow t1.st g;refine k _ H1 _ fp (t1.trans t2) (.t (.inl (t1.stp.gone ha)) aq (r1.mono g.s0 (fun _ n=>n) (fun b us _ h=>g.s1 b _ h) fun b hb=>?_)) g1;obtain⟨_,xs,h⟩:=r1.fpN b hb;rw[g.s1 b _ h,h]
end
section
variable{X:Cx}{e:Expr}{es:List Expr}{f:FE}{fp:Dm.FP}{fps:List Dm.FP}{pos:Pos}
theorem p_o(h:DE X e f):DP X e (Dm.pO f):=PE.weak h fun _ _ _=>JT
theorem JU:DPA X [] []:=PA.weak ni fun _ _ _=>E7
theorem HP(h:DP X e fp)(r:DPA X es fps)(hs:starEach (e::es) X.env=(false,eval e X.env)::starEach es X.env:=by rfl):DPA X (e::es) (fp::fps):=PA.weak (gR h r hs) fun _ _ _=>Am
theorem HQ{x1}(h:DPA X es fps):DP X (.Tuple es x1 pos) (Dm.pT fps):=PE.weak (vM h) fun _ _ _=>E8
end
def spP(f:List Dat->Option Dm.Dp):Sp:=fun vs H Q _=>∃H0 ds p,ah H0 H/\av H0 vs ds/\f ds=some p/\∀v H0' H' fp,aJ H0 H H0' H'->bQ (fun a=>H a=none) H0' H' v p fp->fp.Nodup->(∀a∈fp,H0' a=none)->Q v H'
def tDP(g:Dm.FSP):TS:=fun D σ H=>∃H0 ρ p,ak H0 H σ ρ/\g ρ=some p/\∀σ' ρ' v H0' H' fp,SSt σ ρ H0 H σ' ρ' H0' H'->bQ (gB σ ρ H) H0' H' v p fp->fp.Nodup->(∀a∈fp,H0' a=none)->D.rt v H'
noncomputable abbrev DQs(X:Cx)(st:List Stmt)(g:Dm.FSP):Prop:=PSs X st (tDP g)
section
variable{D:Ends}{σ:L2.St}{H:Hp}
section
variable{vs:List V}{ds:List Dat}{g:Dm.FSP}{n m:Nat}{N:List Str}{E:XK}{Q:VK}
theorem JV{f:Dm.FP}(h:tDP (Dm.qR f) D σ H):uc (tDp f) D σ H:=by
 obtain⟨H0,ρ,p,st,e,k⟩:=h;unfold Dm.qR at e;split at e
 ·cases e
 rename_i p' ρ1 e1;cases e;exact⟨H0,ρ,_,ρ1,st,e1,fun v H0' H' fp t r g=>k σ ρ1 v H0' H' fp t.sst r g.1 fun a ha=>(g.2 a ha).1⟩
theorem E9{s:FS}(h:tDP (Dm.nW s g) D σ H):jH (tDS s) (tDP g) D σ H:=by
 obtain⟨H0,ρ,p,st,e,k⟩:=h;unfold Dm.nW at e;split at e
 case h_2=>cases e
 rename_i ρ1 e1;refine⟨H0,ρ,_,st,e1,fun σ1 H1 Hb t1=>⟨H1,ρ1,p,t1.st,e,fun σ2 ρ2 v H2 Hc fp t2 r nd n=>k σ2 ρ2 v H2 Hc fp (t1.trans t2) ?_ nd n⟩⟩;exact r.mono (ah.refl _) (fun a z=>z.elim (fun z=>.inl (t1.stp.gone z)) fun z=>(t1.own a z).elim .inr .inl) (fun _ _ _ h=>h) fun _ _=>rfl
theorem ie{m i:Nat}{c:Dm.Cell}(h:(ds.map Dm.Cell.sh++Dk m .un)[i]?=some c):(∃d,c=.sh d/\ds[i]?=some d)\/c=.un:=by
 by_cases hi:i<ds.length
 ·rw[KH (by simpa using hi),KZ]at h;cases q:ds[i]? with
  |none=>rw[q]at h;cases h
  |some y=>rw[q]at h;cases h;exact .inl ⟨y,rfl,rfl⟩
 ·rw[KI (by simpa using hi),Lm]at h;split at h<;>cases h
  exact .inr rfl
theorem xm{H0 H:Hp}(hm:N.length=n+m)(hn:ds.length=n)(s:ah H0 H)(rs:av H0 vs ds) :
  ak H0 H (start N vs) (ds.map Dm.Cell.sh++Dk m .un)/\∀a,¬ai (start N vs) (ds.map Dm.Cell.sh++Dk m .un) a:=by
 have hl:=rs.length;refine⟨⟨s,?_,fun i d h=>?_,fun i d h=>?_,fun i j d e a h1 h2 _ _=>?_⟩,fun a ⟨i,d,h1,_⟩=>?_⟩
 ·unfold L2.start;simp only[KL,gp,Mc]
  lia
 ·rcases ie h with⟨d',z,q⟩ | z
  ·cases z;obtain⟨v,hv,r⟩:=rs.get q;have hi:i<vs.length:=(pe.mp hv).1;refine⟨v,?_,r⟩;unfold L2.start;rw[KH (by simpa using hi),KZ,hv];rfl
  ·cases z
 ·rcases ie h with⟨d',z,q⟩ | z<;>cases z
 ·rcases ie h1 with⟨d',z,q⟩ | z<;>cases z
 ·rcases ie h1 with⟨d',z,q⟩ | z<;>cases z
theorem s_{H:Hp}(h:spP (Dm.fnP n m g) vs H Q E):vs.length=n:=by
 obtain⟨H0,ds,z,s,rs,e,k⟩:=h;unfold Dm.fnP at e;split at e
 ·rename_i hl;rw[rs.length];exact hl
 ·cases e
theorem Ce(hm:N.length=n+m)(h:spP (Dm.fnP n m g) vs H Q E) :
  tDP g { nx:=fun _ H'=>Q .non H',rt:=Q } (start N vs) H:=by
 obtain⟨H0,ds,p,s,rs,e,k⟩:=h;unfold Dm.fnP at e;split at e
 case isFalse=>cases e
 rename_i hl;obtain⟨st,no⟩:=xm hm hl s rs;refine⟨H0,_,p,st,e,fun σ' ρ' v H0' H' fp t r nd n=>k v H0' H' fp ⟨t.stp.s0,fun a o e=>t.stp.s1 a o e (no a),fun a o e=>(t.stp.s2 a o e).imp id fun q=>q.elim id fun z=>absurd z (no a),t.st.same⟩ ?_ nd n⟩;exact r.mono (ah.refl _) (fun a z=>z.elim id fun z=>absurd z (no a)) (fun _ _ _ h=>h) fun _ _=>rfl
end
end
section
variable{X:Cx}{e:Expr}{st:Stmt}{xN:List Stmt}{fp:Dm.FP}{fs:FS}{g:Dm.FSP}{pos:Pos}
theorem q_r(h:DP X e fp):DQs X [.Return (some e) pos] (Dm.qR fp):=gM (PS.weak (jI h) fun _ _ _=>JV)
theorem xo(h1:DS X st fs)(h2:DQs X xN g):DQs X (st::xN) (Dm.nW fs g):=PSs.weak (bU h1 h2) fun _ _ _=>E9
end
theorem ak.qW{H0 H:Hp}{σ:L2.St}{ρ:Dm.Env}(st:ak H0 H σ ρ)(j:Nat)(v:Option V):ak H0 H (σ.set j v) (ρ.set j .un)/\∀a,ai (σ.set j v) (ρ.set j .un) a->ai σ ρ a:=by
 refine⟨⟨st.same,by rw[K8,K8];exact st.len,fun i d h=>?_,fun i d h=>?_,fun i i' d d' a h1 h2 h3 h4=>?_⟩,fun a ⟨i,d,h1,h2⟩=>?_⟩
 ·rcases aQ h with⟨_,z⟩ | ⟨hij,h⟩
  ·cases z
  ·obtain⟨v,q,r⟩:=st.sh i d h;exact⟨v,by rw[gc (Lg hij)];exact q,r⟩
 ·rcases aQ h with⟨_,z⟩ | ⟨hij,h⟩
  ·cases z
  ·obtain⟨v,q,r⟩:=st.ow i d h;exact⟨v,by rw[gc (Lg hij)];exact q,r⟩
 ·rcases aQ h1 with⟨_,z⟩ | ⟨q1,h1⟩
  ·cases z
  rcases aQ h2 with⟨_,z⟩ | ⟨q2,h2⟩
  ·cases z
  rw[gc (Lg q1)]at h3;rw[gc (Lg q2)]at h4;exact st.dis i i' d d' a h1 h2 h3 h4
 ·rcases aQ h1 with⟨_,z⟩ | ⟨hij,h1⟩
  ·cases z
  ·rw[gc (Lg hij)]at h2;exact⟨i,d,h1,h2⟩
structure MS(j:Nat)(σs:L2.St)(ρs:Dm.Env)(H0s Hs:Hp)(σ:L2.St)(ρ:Dm.Env)(H0 H:Hp)(p:Dm.Dp):Prop where
 st:ak H0 H σ ρ
 stp:Stp (ai σs ρs) H0s Hs H0 H
 own:∀a,ai σ ρ a->ai σs ρs a\/Hs a=none
 fx:σ[0]?=σs[0]?
 ex:∃v fp,σ[j]?=some (some v)/\bQ (fun a=>Hs a=none) H0 H v p fp/\ko σ ρ H0 fp
section
variable{j:Nat}{σs:L2.St}{ρs:Dm.Env}{H0s Hs:Hp}{σ:L2.St}{ρ ρ':Dm.Env}{H0 H H0' H':Hp}{p:Dm.Dp}
theorem MS.sst(n:MS j σs ρs H0s Hs σ ρ H0 H p):SSt σs ρs H0s Hs σ ρ H0 H:=⟨n.st,n.stp,n.own,n.fx⟩
theorem MS.est(n:MS j σs ρs H0s Hs σ ρ H0 H p)(t:ESt σ ρ H0 H ρ' H0' H'):MS j σs ρs H0s Hs σ ρ' H0' H' p:=by obtain⟨v,fp,h1,h2,h3⟩:=n.ex;obtain⟨m1,m2⟩:=h2.est n.st t h3.2;exact⟨t.st,n.stp.trans t.stp n.own,fun a z=>n.own a (t.own a z),n.fx,v,fp,h1,m1,h3.1,m2⟩
theorem MS.grow(n:MS j σs ρs H0s Hs σ ρ H0 H p)(g:aJ H0 H H0' H'):MS j σs ρs H0s Hs σ ρ H0' H' p:=n.est (.grow n.st g)
open Classical in
noncomputable def bor(H0 H:Hp)(N:Addr->Prop):Hp:=fun a=>match H0 a with
 |some o=>some o
 |none=>if N a then H a else none
theorem cZ{N:Addr->Prop}:ah H0 (bor H0 H N):=fun a o e=>by unfold bor;rw[e]
theorem nY{N:Addr->Prop}(s:ah H0 H):ah (bor H0 H N) H:=fun a o e=>by
 unfold bor at e;split at e
 ·rename_i q;cases e;exact s _ _ q
 ·split at e
  ·exact e
  ·cases e
theorem fy{N:Addr->Prop}(s:ah H0 H){a:Addr}{o:HO}(n:N a)(h:H a=some o):bor H0 H N a=some o:=by
 unfold bor;split
 ·rename_i o' q;rw[<- h];exact(s _ _ q).symm
 ·rw[if_pos n];exact h
def Look(Hs:Hp)(σ:L2.St)(ρ:Dm.Env)(a:Addr):Prop:=Hs a=none\/ai σ ρ a
theorem iY{j:Nat}{σ:L2.St}{ρ:Dm.Env}{p:Dm.Dp}{a:Addr}:¬ai σ (Dm.see j ρ p) a:=fun⟨i,d,h1,_⟩=>by
 unfold Dm.see Dm.pW at h1;rw[KZ]at h1;cases q:(ρ.set j (.sh p.dat))[i]? with
 |none=>rw[q]at h1;cases h1
 |some c=>rw[q]at h1;cases c<;>cases h1
theorem MS.see(n:MS j σs ρs H0s Hs σ ρ H0 H p):ak (bor H0 H (Look Hs σ ρ)) H σ (Dm.see j ρ p):=by
 obtain⟨v,fp,h1,h2,h3⟩:=n.ex;refine⟨nY n.st.same,by unfold Dm.see Dm.pW;rw[gp,K8];exact n.st.len,fun i d h=>?_,fun i d h=>?_,fun i i' d d' a z1 z2 z3 z4=>?_⟩
 ·unfold Dm.see Dm.pW at h;rw[KZ]at h;cases q:(ρ.set j (.sh p.dat))[i]? with
  |none=>rw[q]at h;cases h
  |some c=>
   rw[q]at h;rcases aQ q with⟨rfl,rfl⟩ | ⟨_,q⟩
   ·cases h;exact⟨v,h1,h2.rep cZ fun a o z w=>fy n.st.same (.inl z) w⟩
   ·cases c with
    |un=>cases h
    |sh d'=>cases h;obtain⟨u,w1,w2⟩:=n.st.sh i d q;exact⟨u,w1,w2.mono cZ⟩
    |ow d'=>
     cases h;obtain⟨a,w1,w2,w3⟩:=n.st.ow i d q;have lk:Look Hs σ ρ a:=.inr ⟨i,d,q,w1⟩;refine⟨_,w1,?_⟩;cases d with
     |lst ds=>obtain⟨xs,y,rs⟩:=w3;exact .lst (.inl (fy n.st.same lk y)) (rs.mono cZ)
     |dct ks ds=>obtain⟨xs,y,k,rs⟩:=w3;exact .dct (fy n.st.same lk y) k (rs.mono cZ)
     |dcp ks ds=>obtain⟨xs,y,k,rs⟩:=w3;exact .dcp (fy n.st.same lk y) (k.mono cZ) (rs.mono cZ)
     |_=>exact w3.elim
 ·exact(iY (σ:=Dk (i+1) (some (V.ref 0))) (a:=0) ⟨i,d,h,by rw[Lm,if_pos (NF i)]⟩).elim
 ·exact(iY ⟨i,d,z1,z3⟩).elim
theorem MS.seen(n:MS j σs ρs H0s Hs σ ρ H0 H p){Hb:Hp}(t:ESt σ (Dm.see j ρ p) Hb H ρ' H0' H'):aJ H0 H H0 H':=
 ⟨ah.refl _,fun a o e=>t.stp.s1 a o e iY,fun a o e=>.inr e,n.st.same.trans fun a o e=>t.stp.s1 a o e iY⟩
end
def tDM(j:Nat)(g:Dm.FM):TS:=fun D σ H=>∃σs ρs H0s Hs H0 ρ p o,MS j σs ρs H0s Hs σ ρ H0 H p/\g ρ p=some o/\jQ D σs ρs H0s Hs o
noncomputable abbrev DMs(X:Cx)(j:Nat)(st:List Stmt)(g:Dm.FM):Prop:=PSs X st (tDM j g)
section
variable{D:Ends}{σ:L2.St}{H:Hp}{j:Nat}
theorem HR{t:FT}{fs:FS}{g:Dm.FM}(h:tDM j (Dm.mIf j t fs g) D σ H):jH (vz (tDT t) (tDS fs) oU) (tDM j g) D σ H:=by
 obtain⟨σs,ρs,H0s,Hs,H0,ρ,p,o,n,e,k⟩:=h;unfold Dm.mIf at e;split at e
 ·cases e
 ·rename_i ρ1 e1;refine⟨_,_,true,ρ1,n.see,e1,fun H1 Hb t1=>?_⟩;dsimp only;rw[if_pos rfl];have n1:=n.grow (n.seen t1);have k1:=k.pre n1.sst;split at e
  ·cases e
  ·rename_i hn;refine⟨H0,ρ,o,n1.st,e,?_⟩;cases o with
   |nx ρ'=>exact(hn ρ' e).elim
   |bk ρ'=>exact k1
   |ct ρ'=>exact k1
   |ret z ρ'=>exact k1
 ·rename_i ρ1 e1;refine⟨_,_,false,ρ1,n.see,e1,fun H1 Hb t1=>?_⟩;dsimp only;rw[if_neg K7];exact⟨σs,ρs,H0s,Hs,H0,ρ,p,o,n.grow (n.seen t1),e,k⟩
theorem MS.wr{σs:L2.St}{ρs:Dm.Env}{H0s Hs:Hp}{ρ:Dm.Env}{H0:Hp}{p:Dm.Dp}(n:MS j σs ρs H0s Hs σ ρ H0 H p){a:Addr}(h1:Hs a=none)(h2:H0 a=none)(h3:¬ai σ ρ a)(o:HO):SSt σs ρs H0s Hs σ ρ H0 (upd H a o):=
 ⟨n.st.aside h2 h3,n.stp.aside h1,n.own,n.fx⟩
theorem E_{f:List Dat->Option Dm.Dp}{fs:List FE}{g:Dm.FM}{E:XK}(hj:j<σ.length)(h:tDS (Dm.mz j f fs g) D σ H):jH (ng (fZ (spP f) [] E (tDA fs)) (fY j)) (tDM j g) D σ H:=by
 obtain⟨H0,ρ,o,st,e,k⟩:=h;unfold Dm.mz at e;split at e
 ·cases e
 rename_i hj0;split at e
 ·cases e
 rename_i xs ρ1 e1;split at e
 ·cases e
 rename_i ds ρ2 e2;split at e
 ·cases e
 rename_i p ep;refine⟨H0,ρ,xs,ρ1,st,e1,fun vs H1 Hb t1 r1=>?_⟩;dsimp only;rw[K4];obtain⟨H2,t2,b2,r2⟩:=takes t1 (ah.refl _) r1 e2;refine⟨H2,ds,p,t2.st.same,r2,ep,fun v H3 Hd fp g3 r3 nd n3=>?_⟩;have t3:=t2.trans (.grow t2.st g3);obtain⟨s1,s2⟩:=t3.st.qW j (some v);refine⟨σ,ρ,H0,H,H3,_,p,o,⟨s1,t3.stp,fun a z=>.inl (t3.own a (s2 a z)),gc hj0,v,fp,KW hj,r3.mono (ah.refl _) (fun a n=>t2.stp.gone n) (fun _ _ _ h=>h) fun _ _=>rfl,nd,fun a ha=>⟨n3 a ha,fun z=>?_⟩⟩,e,k⟩;exact t2.st.dO (r3.fpN a ha).1 (s2 a z)
end
section
variable{X:Cx}{e c:Expr}{xN:List Stmt}{fs gs:FS}{g:Dm.FM}{pos:Pos}{j:Nat}
theorem JX{t:FT}{x:List Stmt}(ht:DT X c t)(ha:DSs X x fs)(hr:DMs X j xN g):DMs X j (.If c x [] pos::xN) (Dm.mIf j t fs g):=PSs.weak (bU (rX ht ha ju) hr) fun _ _ _=>HR
end
end Br
namespace Dm
noncomputable def fB(bd:FB)(el:FP):List Dat->Env->List Dp->Option (List Dp×Env)
 |[],ρ,AR=>some (AR,ρ)
 |d::r,ρ,AR=>match bd d ρ with
  |none=>none
  |some ρ1=>match el ρ1 with
   |none=>none
   |some (p,ρ2)=>fB bd el r ρ2 (AR++[p])
noncomputable def jc(it:FI)(own:Nat)(bd:FB)(el:FP):FP:=fun ρ=>match it ρ with
 |none=>none
 | some (ds,ρ1)=>if ds.length≤SZ then (match fB bd el ds (ρ1++Dk own .un) [] with
  |none=>none
  |some (ps,ρ2)=>some (.l ps,ρ2.take ρ1.length)) else none
inductive OM where
 |nx (ρ:Env) (p:Dp)
 |rt (d:Dat) (ρ:Env)
noncomputable abbrev FC:=Env->Dp->Option OM
noncomputable def cNx:FC:=fun ρ p=>some (.nx ρ p)
noncomputable def qX(s u:FC):FC:=fun ρ p=>match s ρ p with
 |some (.nx ρ1 p1)=>u ρ1 p1
 |o=>o
noncomputable def cIf(j:Nat)(t:FT)(a b:FC):FC:=fun ρ p=>match t (see j ρ p) with
 |none=>none
 |some (true,_)=>a ρ p
 |some (false,_)=>b ρ p
noncomputable def cRt(j:Nat)(e:FE):FC:=fun ρ p=>match e (see j ρ p) with
 |some (.val d,_)=>if cQ d then none else some (.rt d ρ)
 |_=>none
noncomputable def f_(bd:FB)(body:FC):List Dat->FC
 |[],ρ,p=>some (.nx ρ p)
 |d::q,ρ,p=>match bd d ρ with
  |none=>none
  |some ρ1=>match body ρ1 p with
   |some (.nx ρ2 p2)=>f_ bd body q ρ2 p2
   |o=>o
noncomputable def qY(s:FC)(g:FM):FM:=fun ρ p=>match s ρ p with
 |some (.nx ρ1 p1)=>g ρ1 p1
 |some (.rt d ρ1)=>some (.ret (.val d) ρ1)
 |none=>none
end Dm
namespace Br
open PySem PySem.Spec PyProof.Rows L2
section
variable{is:List Nat}{bd:Dm.FB}{σ:L2.St}{g:TG}
theorem aG.snoc{N:Addr->Prop}{H0 H:Hp}{w:V}{q:Dm.Dp}{f:List Addr}(r:bQ N H0 H w q f):∀{vs:List V} {ps:List Dm.Dp} {fp:List Addr},aG N H0 H vs ps fp->aG N H0 H (vs++[w]) (ps++[q]) (fp++f)
 |_,_,_,.nil=>by have:=aG.cons r (aG.nil (N:=N) (H0:=H0) (H:=H));rw[K4]at this;exact this
 |_,_,_,.cons h t=>by have:=aG.cons h (aG.snoc r t);rw[<- Ln]at this;exact this
theorem xq{own:Nat}{el:Dm.FP}{Q:VK}{H00 Hb:Hp}{ρ1 ρ2:Dm.Env}{ds:List Dat}{ps:List Dm.Dp}{J:It}(hb:BD is g bd)(hl:∀i∈is,σ.length<=i)
  (st1:ak H00 Hb σ ρ1) (jw:JW J H00 ds) (hsz:ds.length<=Dm.SZ) (e2:Dm.fB bd el ds (ρ1++Dk own .un) []=some (ps,ρ2)) (D:Addr) (hD:Hb D=none)
  (k:∀H0' H' fp,ESt σ ρ1 H00 Hb (ρ2.take ρ1.length) H0' H'->bQ (gB σ ρ1 Hb) H0' H' (.ref D) (.l ps) fp->ko σ (ρ2.take ρ1.length) H0' fp->Q (.ref D) H') :
  ∃W:Nat->Nat->L2.St->Hp->Prop,(∃m,W 0 m (σ++Dk own none) (upd Hb D (.lst [])))/\∀i m σ' H',W i m σ' H' ->
  (J.stop i H'∧Q (.ref D) H')∨(J.go i H'∧∀ x H2,J.yld i H' x H2→g x σ' H2 fun σ2 H3=>zF σ2 H3 fun b H4=>if b=true
   then tDp el σ2 H4 fun y H5=>∃AR,H5 D=some (.lst AR)/\AR.length<sizeLine/\∃m',m'<m/\W (i+1) m' σ2 (upd H5 D (.lst (AR++[y])))
   else ∃m',m'<m/\W (i+1) m' σ2 H4):=by
 have noD:¬ai σ ρ1 D:=st1.dO hD;refine ⟨fun i m σ' H'=>∃ (H0c:Hp) (ρc:Dm.Env) (pa:List Dm.Dp) (fp:List Addr),ak H0c H' σ' ρc∧ah H00 H0c∧m=ds.length-i∧i≤ds.length∧Dm.fB bd el (ds.drop i) ρc pa=some (ps,ρ2) ∧
  bQ (gB σ ρ1 Hb) H0c H' (.ref D) (.l pa) fp/\pa.length=i/\ko σ' ρc H0c fp/\Stp (ai σ ρ1) H00 Hb H0c H'/\(∀j,j<σ.length->σ'[j]?=σ[j]?)/\(∀a,ai σ' ρc a->ai σ ρ1 a),
  ⟨ds.length,H00,ρ1++Dk own .un,[],[D],(st1.aside (st1.same.free hD) noD).ext own,ah.refl _,by simp,Lc _,by simpa using e2,.l (.inl hD) aq .nil,rfl,⟨by simp,fun a ha=>?_⟩,(Stp.refl _ _ _).aside hD,
   fun j hj=>KH hj,fun a z=>fN st1 z⟩,?_⟩
 ·rw[KS.mp ha];exact⟨st1.same.free hD,fun z=>noD (fN st1 z)⟩
 rintro i m σ' H' ⟨H0c,ρc,pa,fp,sc,s00,rfl,hi,ec,ra,A3,fr,sp,hσ,ho⟩;obtain⟨js,jg⟩:=jw H0c H' s00 sc.same;by_cases Cs:i<ds.length
 ·have hd:ds[i]?=some ds[i]:=by simp[Cs]
  obtain⟨g1,g2⟩:=jg i ds[i] hd;rw[Lp Cs]at ec;unfold Dm.fB at ec;refine .inr ⟨g1,fun y H2 yy=>?_⟩;obtain⟨H0',gr,rx⟩:=g2 y H2 yy;split at ec
  ·cases ec
  rename_i ρ3 e3;split at ec
  ·cases ec
  rename_i p5 ρ5 e5;have t2:=ESt.grow sc gr;obtain⟨ra2,fr2⟩:=ra.est sc t2 fr.2;refine hb H0' H2 σ' ρc ρ3 y ds[i] _ t2.st rx e3 fun σ3 st3 o3 k3 d3 _=>?_;unfold zF;dsimp only;rw[if_pos rfl];refine⟨H0',ρ3,p5,ρ5,st3,e5,fun v H5 Hc f5 t5 r5 g5=>?_⟩;have fr3:∀a∈fp,H0' a=none/\¬ai σ3 ρ3 a:=fun a ha=>⟨(fr2 a ha).1,fun z=>(fr2 a ha).2 (o3 a z)⟩;obtain⟨ra5,fr5⟩:=ra2.est st3 t5 fr3;have sp3:Stp (ai σ ρ1) H00 Hb H0' H2:=sp.trans t2.stp fun a z=>.inl (ho a z);have sp5:Stp (ai σ ρ1) H00 Hb H5 Hc:=sp3.trans t5.stp fun a z=>.inl (ho a (o3 a z));have nw:∀a,gB σ3 ρ3 H2 a->gB σ ρ1 Hb a:=fun a z=>z.elim (fun z=>.inl (sp3.gone z)) fun z=>.inr (ho a (o3 a z));have frA:ko σ3 ρ5 H5 (fp++f5):=ko.app (H1:=H0') (Hb:=H2) (Hc:=Hc) fr.1 (fun a ha=>⟨by obtain⟨_,xs,h⟩:=ra2.fpN a ha;exact⟨_,h⟩,(fr3 a ha).2⟩) fr5 g5 fun a ha=>(r5.fpN a ha).1;cases ra5 with
  |l nD hDc rs=>
   rename_i vs fq;obtain⟨z1,z2⟩:=fr5 D Kz;have ndA:=frA.1;rw[ND]at ndA;obtain⟨nd1,nd2⟩:=LI.mp ndA;refine⟨vs,hDc,?_,ds.length-(i+1),by lia,H5,ρ5,pa++[p5],D::(fq++f5),t5.st.aside z1 z2,(s00.trans gr.s0).trans t5.stp.s0,rfl,Cs,ec,?_,by simp[A3],frA,sp5.aside hD,fun j hj=>(k3 j fun z=>MB.mpr (hl j z) hj).trans (hσ j hj),fun a z=>ho a (o3 a (t5.own a z))⟩
   ·rw[rs.length,A3];unfold Dm.SZ at hsz;exact KN (KN Cs hsz) (by decide)
   ·refine .l nD aq ?_;have r5':bQ (gB σ ρ1 Hb) H5 Hc v p5 f5:=r5.mono (ah.refl _) nw (fun _ _ _ h=>h) fun _ _=>rfl;refine(rs.snoc r5').mono (ah.refl _) (fun _ n=>n) (fun a us _ h=>?_) fun a ha=>?_
    ·rw[af fun z=>?_]
     ·exact h
     ·rw[z,hDc]at h;cases h
    ·exact af fun z=>nd1 (z▸ha)
 ·have e':i=ds.length:=by lia
  subst e';rw[MZ]at ec;cases ec;have xR:σ.length<=ρ2.length:=by rw[<- sc.len];refine MB.mp fun z=>?_;have q:=hσ σ'.length z;rw[LX (Nat.le_refl _),KG z]at q;cases q
  have tk:∀{j:Nat} {c:Dm.Cell},(ρ2.take ρ1.length)[j]?=some c->j<σ.length/\ρ2[j]?=some c:=fun {j c} h=>by
   have hj:j<ρ1.length:=by
    have:=(pe.mp h).1;rw[Lh]at this
    lia
   rw[L0 hj]at h;exact⟨by rw[st1.len];exact hj,h⟩
  have own':∀a,ai σ (ρ2.take ρ1.length) a->ai σ' ρ2 a:=fun a ⟨j,d,h1,h2⟩=>by obtain⟨hj,h1⟩:=tk h1;exact⟨j,d,h1,(hσ j hj).trans h2⟩
  refine .inl ⟨js _ (Nat.le_refl _),k H0c H' fp ⟨⟨sc.same,?_,fun j d h=>?_,fun j d h=>?_,fun j j' d d' a h1 h2 h3 h4=>?_⟩,sp,fun a z=>ho a (own' a z),fun j z=>trivial⟩ ra ⟨fr.1,fun a ha=>⟨(fr.2 a ha).1,fun z=>(fr.2 a ha).2 (own' a z)⟩⟩⟩
  ·rw[Lh,<- st1.len];lia
  ·obtain⟨hj,h⟩:=tk h;obtain⟨v,q,r⟩:=sc.sh j d h;exact⟨v,(hσ j hj).symm.trans q,r⟩
  ·obtain⟨hj,h⟩:=tk h;obtain⟨v,q,r⟩:=sc.ow j d h;exact⟨v,(hσ j hj).symm.trans q,r⟩
  ·obtain⟨hj,h1⟩:=tk h1;obtain⟨hj',h2⟩:=tk h2;exact sc.dis j j' d d' a h1 h2 ((hσ j hj).trans h3) ((hσ j' hj').trans h4)
theorem An{H:Hp}{Q:VK}{fi:Dm.FI}{own:Nat}{el:Dm.FP}(hb:BD is g bd)(hl:∀i∈is,σ.length<=i)(h:tDp (Dm.jc fi own bd el) σ H Q):tLC (tDI fi) own g zF (tDp el) σ H Q:=by
 obtain⟨H0,ρ,x,ρ',st,e,k⟩:=h;unfold Dm.jc at e;split at e
 ·cases e
 rename_i ds ρ1 e1;split at e
 case isFalse=>cases e
 rename_i hsz;split at e
 ·cases e
 rename_i ps ρ2 e2;cases e;refine⟨H0,ρ,ds,ρ1,st,e1,fun J H00 Hb t1 jw D hD=>xq hb hl t1.st jw hsz e2 D hD fun H0' H' fp t2 r2 f2=>k _ H0' H' fp (t1.trans t2) (r2.mono (ah.refl _) (fun a n=>gB.back t1 n) (fun _ _ _ h=>h) fun _ _=>rfl) f2⟩
def JY(D:Ends)(j:Nat)(σs:L2.St)(ρs:Dm.Env)(H0s Hs H0:Hp):Dm.OM->Prop
 |.nx ρ' p'=>∀σ' H0' H',MS j σs ρs H0s Hs σ' ρ' H0' H' p'->ah H0 H0'->D.nx σ' H'
 |.rt d ρ'=>∀σ' v H0' H' p',MS j σs ρs H0s Hs σ' ρ' H0' H' p'->Rep H0' v d->D.rt v H'
def tDC(j:Nat)(g:Dm.FC):TS:=fun D σ H=>∃σs ρs H0s Hs H0 ρ p o,MS j σs ρs H0s Hs σ ρ H0 H p/\g ρ p=some o/\JY D j σs ρs H0s Hs H0 o
noncomputable abbrev DC(X:Cx)(j:Nat)(st:Stmt)(g:Dm.FC):Prop:=PS X st (tDC j g)
noncomputable abbrev DCs(X:Cx)(j:Nat)(st:List Stmt)(g:Dm.FC):Prop:=PSs X st (tDC j g)
end
section
variable{j:Nat}{σs:L2.St}{ρs:Dm.Env}{H0s Hs:Hp}{σ:L2.St}{ρ ρ':Dm.Env}{H0 H H0' H':Hp}{p q:Dm.Dp}
theorem MS.bind(n:MS j σs ρs H0s Hs σ ρ H0 H p){σ':L2.St}{ρ':Dm.Env}(st:ak H0 H σ' ρ')(o:∀a,ai σ' ρ' a->ai σ ρ a)(hj:σ'[j]?=σ[j]?)(h0:σ'[0]?=σ[0]?):MS j σs ρs H0s Hs σ' ρ' H0 H p:=by obtain⟨v,fp,h1,h2,h3⟩:=n.ex;exact⟨st,n.stp,fun a z=>n.own a (o a z),h0.trans n.fx,v,fp,hj.trans h1,h2,h3.1,fun a ha=>⟨(h3.2 a ha).1,fun z=>(h3.2 a ha).2 (o a z)⟩⟩
theorem MS.set(n:MS j σs ρs H0s Hs σ ρ H0 H p){i:Nat}{v:V}{d:Dat}(hi:i≠0)(hj:i≠j)(r:Rep H0 v d):MS j σs ρs H0s Hs (σ.set i (some v)) (ρ.set i (.sh d)) H0 H p:=
 n.bind (n.st.jR r) (fun _ z=>cS z) (gc hj) (gc hi)
end
section
variable{D:Ends}{σ:L2.St}{H:Hp}{j:Nat}
theorem HS(h:tDC j Dm.cNx D σ H):oU D σ H:=by obtain⟨σs,ρs,H0s,Hs,H0,ρ,p,o,n,e,k⟩:=h;cases e;exact k σ H0 H n (ah.refl _)
theorem HU{t:FT}{a b:Dm.FC}(h:tDC j (Dm.cIf j t a b) D σ H):vz (tDT t) (tDC j a) (tDC j b) D σ H:=by
 obtain⟨σs,ρs,H0s,Hs,H0,ρ,p,o,n,e,k⟩:=h;unfold Dm.cIf at e;split at e
 ·cases e
 ·rename_i ρ1 e1;refine⟨_,_,true,ρ1,n.see,e1,fun H1 Hb t1=>?_⟩;dsimp only;rw[if_pos rfl];exact⟨σs,ρs,H0s,Hs,H0,ρ,p,o,n.grow (n.seen t1),e,k⟩
 ·rename_i ρ1 e1;refine⟨_,_,false,ρ1,n.see,e1,fun H1 Hb t1=>?_⟩;dsimp only;rw[if_neg K7];exact⟨σs,ρs,H0s,Hs,H0,ρ,p,o,n.grow (n.seen t1),e,k⟩
theorem HV{f:FE}(h:tDC j (Dm.cRt j f) D σ H):uc (tD f) D σ H:=by
 obtain⟨σs,ρs,H0s,Hs,H0,ρ,p,o,n,e,k⟩:=h;unfold Dm.cRt at e;split at e
 case h_2=>cases e
 rename_i d ρ1 e1;split at e
 ·cases e
 rename_i nb;cases e;exact⟨_,_,_,ρ1,n.see,e1,fun v H1 Hb t1 r1=>k σ v H0 Hb p (n.grow (n.seen t1)) (Rep.plain r1 (by simpa using nb))⟩
theorem Fb{s:Dm.FC}{g:Dm.FM}(h:tDM j (Dm.qY s g) D σ H):jH (tDC j s) (tDM j g) D σ H:=by
 obtain⟨σs,ρs,H0s,Hs,H0,ρ,p,o,n,e,k⟩:=h;unfold Dm.qY at e;split at e
 ·rename_i ρ1 p1 e1;exact⟨σs,ρs,H0s,Hs,H0,ρ,p,_,n,e1,fun σ' H0' H' n' _=>⟨σs,ρs,H0s,Hs,H0',ρ1,p1,o,n',e,k⟩⟩
 ·rename_i d ρ1 e1;cases e;exact⟨σs,ρs,H0s,Hs,H0,ρ,p,_,n,e1,fun σ' v H0' H' p' n' r=>k σ' v H0' H' n'.sst r fun d' a z=>by cases z⟩
 ·cases e
end
section
variable{X:Cx}{st:Stmt}{xN:List Stmt}{fs gs:Dm.FC}{g:Dm.FM}{e c:Expr}{f:FE}{pos:Pos}{j:Nat}
theorem m_c(h:DC X j st fs)(hr:DMs X j xN g):DMs X j (st::xN) (Dm.qY fs g):=PSs.weak (bU h hr) fun _ _ _=>Fb
theorem HW:DCs X j [] Dm.cNx:=PSs.weak ju fun _ _ _=>HS
theorem Cf(h1:DC X j st fs):DCs X j [st] fs:=gM h1
theorem JZ{t:FT}{x y:List Stmt}(ht:DT X c t)(ha:DCs X j x fs)(hb:DCs X j y gs):DC X j (.If c x y pos) (Dm.cIf j t fs gs):=PS.weak (rX ht ha hb) fun _ _ _=>HU
theorem J0(he:DE X e f):DC X j (.Return (some e) pos) (Dm.cRt j f):=PS.weak (jI he) fun _ _ _=>HV
end
end Br
namespace Dm
noncomputable def kr(f:List Dat->Option Dp)(as:List FE):FP:=fun ρ=>match eAs as ρ with
 |none=>none
 |some (xs,ρ1)=>match tks ρ1 xs with
  |none=>none
  |some (ds,ρ2)=>match f ds with
   |none=>none
   |some p=>some (p,ρ2)
end Dm
namespace Br
open PySem PySem.Spec PyProof.Rows L2
section
variable{σ:L2.St}{H:Hp}{Q:VK}
theorem Ao{f:List Dat->Option Dm.Dp}{fs:List FE}{E:XK}(h:tDp (Dm.kr f fs) σ H Q):fZ (spP f) [] E (tDA fs) σ H Q:=by
 obtain⟨H0,ρ,p,ρ',st,e,k⟩:=h;unfold Dm.kr at e;split at e
 ·cases e
 rename_i xs ρ1 e1;split at e
 ·cases e
 rename_i ds ρ2 e2;split at e
 ·cases e
 rename_i p' ep;cases e;refine⟨H0,ρ,xs,ρ1,st,e1,fun vs H1 Hb t1 r1=>?_⟩;dsimp only;rw[K4];obtain⟨H2,t2,b2,r2⟩:=takes t1 (ah.refl _) r1 e2;refine⟨H2,ds,p,t2.st.same,r2,ep,fun v H3 Hd fp g3 r3 nd n3=>?_⟩;exact k v H3 Hd fp (t2.trans (.grow t2.st g3)) (r3.mono (ah.refl _) (fun a n=>.inl (t2.stp.gone n)) (fun _ _ _ h=>h) fun _ _=>rfl) ⟨nd,fun a ha=>⟨n3 a ha,t2.st.dO (r3.fpN a ha).1⟩⟩
end
section
variable{D:Ends}{σ:L2.St}{H:Hp}{j:Nat}
theorem aG.change{N:Addr->Prop}{H0 H:Hp}{x:Dm.Dp}:∀{vs:List V} {ps:List Dm.Dp} {fp:List Addr} {m:Nat},aG N H0 H vs ps fp->fp.Nodup->ps[m]?=some x ->
  ∃v f,vs[m]?=some v/\bQ N H0 H v x f/\(∀a∈f,a∈fp)/\f.Nodup/\∀q o x' ls,q∈f->H q=some (.lst ls)->bQ N H0 (upd H q o) v x' f->aG N H0 (upd H q o) vs (ps.set m x') fp
 |_,_,_,_,.nil,_,e=>by simp at e
 |_,_,_,0,.cons h r,nd,e=>by simp at e;subst e;obtain⟨nd1,nd2,nd3⟩:=MR.mp nd;refine⟨_,_,rfl,h,fun a ha=>Lv _ ha,nd1,fun q o x' ls hq hl h'=>.cons h' (r.mono (ah.refl _) (fun _ z=>z) (fun a us _ z=>?_) fun a ha=>af fun z=>nd3 q hq a ha z.symm)⟩;rw[af fun y=>by rw[y,hl]at z;cases z];exact z
 |_,_,_,m+1,.cons h r,nd,e=>by obtain⟨nd1,nd2,nd3⟩:=MR.mp nd;obtain⟨v,f,h1,h2,h3,h4,h5⟩:=aG.change (m:=m) r nd2 (by simpa using e);refine⟨v,f,by simpa using h1,h2,fun a ha=>KQ _ (h3 a ha),h4,fun q o x' ls hq hl h'=>.cons (h.mono (ah.refl _) (fun _ z=>z) (fun a us _ z=>?_) fun a ha=>af fun z=>nd3 a ha q (h3 q hq) z) (h5 q o x' ls hq hl h')⟩;rw[af fun y=>by rw[y,hl]at z;cases z];exact z
end
section
variable{X:Cx}{e c:Expr}{es:List Expr}{xN:List Stmt}{fs:List FE}{f:FE}{fp:Dm.FP}{gq:Dm.FSP}{g ga:Dm.FM}{pos p:Pos}{j:Nat}
theorem Fc{k:Nat}{F:Addr}{fd:FuncData}{ps:List Str}{h:List Dat->Option Dm.Dp}{x:Str}(G:aO X.prog X.w X.K X.mg X.base CX0 k F fd ps (spP h))(hr:aV k X.A)(hg:Gl X x)(hm:X.mg x=some (.ref F))(hk:Le X.K (.ref F)=true)(hb:Binds X.K fd ps [])
  (ha:DA X (e::es) fs) (FF:(x == ("__debug__" : Str))=false:=by decide) (he:starEach (e::es) X.env=(false,eval e X.env)::starEach es X.env:=by rfl) (A3:(backTo pos (starEach es X.env)).any (·.1)=false:=by rfl) :
  DP X (.Call (.Name x p) (e::es) [] pos) (Dm.kr h fs):=PE.weak (dh G hr hg hm hk hb .nil (gT (X:=X)) ha FF he A3) fun _ _ _=>Ao
end
end Br
namespace Dm
noncomputable def ku:Dat->Dat->Option RV
 |.tup xs,.tup (y::ys)=>if xs.length+(y::ys).length<=SZ then some (.val (.tup (xs++(y::ys)))) else none
 |_,_=>none
end Dm
namespace Br
open PySem PySem.Spec PyProof.Rows L2
def Cg:R2:=fun x y H Q=>∃l b xs zs,x=.ref l/\y=.ref b/\H l=some (.tup xs)/\H b=some (.tup zs)/\zs≠[]/\xs.length+zs.length<=sizeLine/\(xs=[]->Q (.ref b) H)/\(xs≠[]->∀p,H p=none->Q (.ref p) (upd H p (.tup (xs++zs))))
theorem Aq{X:Cx}:OpR X (binaryOp .Add) Cg:=by
 intro jn s σ H x y v u Q I rx ry h;obtain⟨l,b,xs,zs,rfl,rfl,hH,hB,n2,hz,q0,q⟩:=h;cases rx;cases ry;obtain⟨z1,its,r1,⟨⟨cls,dd,data,sl⟩,ho,hc,n,hd⟩⟩:=(show bq X.prog X.w H s.heap l (.tup xs) from I.hok l _ hH)
 obtain⟨z2,its2,r2,⟨⟨Km,dd2,data2,sl2⟩,ho2,hc2,n',hd2⟩⟩:=(show bq X.prog X.w H s.heap b (.tup zs) from I.hok b _ hB)
 simp only at hc hd hc2 hd2;subst hc hd hc2 hd2;have e:its.toArray++its2.toArray=(its++its2).toArray:=by simp
 have hl:=r1.length;have hl2:=r2.length;have m2:its2≠[]:=fun y=>n2 (MP.mp (by rw[hl2,y];rfl));by_cases n1:xs=[]
 ·have m1:its=[]:=MP.mp (by rw[<- hl,n1];rfl);exact concat_meets ⟨_,ho,rfl⟩ ⟨_,ho2,rfl⟩ noFill_tuple_add seq_tuple_add PySem.F.slot_tuple_add PySem.F.entry_tuple_add (PySem.F.args_tuple_add_2 _ _)
   (tuple_addW0 l b its.toArray its2.toArray n n' dd dd2 sl sl2 (by simp[m1])) ⟨ho,ho2,.ref b,H,I,rfl,q0 n1⟩
 ·have m1:its≠[]:=fun y=>n1 (MP.mp (by rw[hl,y];rfl));refine concat_meets ⟨_,ho,rfl⟩ ⟨_,ho2,rfl⟩ noFill_tuple_add seq_tuple_add PySem.F.slot_tuple_add PySem.F.entry_tuple_add (PySem.F.args_tuple_add_2 _ _)
   (tuple_addW2 l b its.toArray its2.toArray n n' dd dd2 sl sl2 (by simpa using m1) (by simpa using m2) (by rw[Ky,Ky];lia)) ⟨ho,ho2,?_⟩
  rw[e];refine⟨.ref _,_,I.laid (t':=s.toks) (fun _ _ q=>Ds _ q) (Nat.le_refl _) (show bq X.prog X.w _ _ _ (.tup (xs++zs)) from ⟨by rw[KL];exact hz,its++its2,r1.append r2,⟨_,KU _ rfl,rfl,0,rfl⟩⟩),rfl,q n1 _ I.fresh⟩
theorem As:OpD Cg Dm.ku:=by
 intro H0 H x y dx dy z Q s rx ry e k;unfold Dm.ku at e;split at e
 ·rename_i xs y1 ys;split at e
  case isFalse=>cases e
  rename_i hz;cases e;have r0:Rep H0 y (.tup (y1::ys)):=by
   rcases ry with r | ⟨a,_,w⟩
   ·exact r
   ·exact K9 w
  obtain⟨a,us,rfl,qa,ra⟩:=e7 s rx;obtain⟨b,ws,rfl,qb,rb⟩:=e7 s ry;have la:=ra.length;have lb:=rb.length;refine⟨a,b,us,ws,rfl,rfl,qa,qb,fun q=>(by rw[q]at lb;cases lb),by rw[la,lb];exact fM hz,fun q=>?_,fun _ p hp=>?_⟩
  ·subst q;cases ra;exact k _ _ _ (aJ.refl s) r0
  ·have g:=aJ.zA (o:=.tup (us++ws)) s hp;exact k _ _ _ g (.tup aq ((ra.append rb).mono g.s0))
 ·cases e
section
variable{X:Cx}{pos:Pos}
theorem xr{a b:Expr}{fa fb:FE}(ha:DE X a fa)(hb:DE X b fb):DE X (.BinOp a .Add b pos) (Dm.e2 Dm.ku fa fb):=pF Aq As ha hb
end
open PySem L2
structure Au(K:gb)(x:Str)(st:Stmt)(a:Addr)(fd:FuncData):Prop where
 e:MK K mainGlobals x=some (some (.ref a))
 F:Fun K x x st a fd
variable{K:gb}{x:Str}{st:Stmt}{a:Addr}{fd:FuncData}{hp:Heap}{mg:Str->Option Value}
theorem Fd{oc:Value}{od an:Option Addr}{osl:Array (Option Value)}{kV doc pm cdv ct:Value}(e:MK K mainGlobals x=some (some (.ref a)))
  (l:K.lookup a=some ⟨oc,od,.func (K1 x x (aR st) (aH st) (aa st) .none kV doc pm an cdv ct),osl⟩) (c:Mj K cdv x=true) (k:Le K (.ref a)=true) :
  Au K x st a (K1 x x (aR st) (aH st) (aa st) .none kV doc pm an cdv ct):=⟨e,vW l c k⟩
theorem mgo{v:Value}(X:K.In hp)(G:hp.Ns mainGlobals mg)(e:MK K mainGlobals x=some (some v)):mg x=some v:=PySem.W.mg_of X G e
theorem mno(X:K.In hp)(G:hp.Ns mainGlobals mg)(e:MK K mainGlobals x=some none):mg x=none:=PySem.W.mg_none_of X G e
theorem Au.J1{y:Str}(h:Au K x st a fd)(hb:∀(kV doc pm:Value) (an:Option Addr) (cdv ct v:Value),bindArgs (K1 x x (aR st) (aH st) (aa st) .none kV doc pm an cdv ct) ⟨[v],[]⟩=pure [(y,v)])(s:Shared)(v:Value):BindsTo s fd ⟨[v],[]⟩ [(y,v)]:=by obtain⟨oc,od,kV,doc,pm,an,cdv,ct,osl,rfl,lk,FG⟩:=h.F.ex;exact .of_eq (hb kV doc pm an cdv ct v)
theorem hm{j k:Nat}{A:Around}(r:aV k A)(h:j<=k:=by decide):aV j A:=r.mono h
theorem fsc{N P:List Str}{sc:Scope}(h1:sc.kind=.function:=by rfl)(h2:sc.isCoroutine=false:=by rfl)(h3:sc.isGenerator=false:=by rfl)(h4:N.take P.length=P:=by rfl)(h:N.Nodup/\(∀x∈P,sc.names.lookup x=some .local\/sc.names.lookup x=some .cell)/\∀y∈sc.names,y.2≠.free:=by decide +kernel):ao N P sc:=⟨h1,h2,h3,h.1,h4,h.2.1,h.2.2⟩
end Br
namespace Br
open PySem PySem.Spec PyProof.Rows L2
section
variable{σ:L2.St}{Hs H0 H:Hp}{ρ:Dm.Env}{f:FE}
theorem pX:∀{fs:List FE} {ρ ρ':Dm.Env} {xs:List Dm.Val},Dm.eAs (fs++[f]) ρ=some (xs,ρ')->∃ys ρ1 y,Dm.eAs fs ρ=some (ys,ρ1)/\f ρ1=some (y,ρ')/\xs=ys++[y]/\ys.length=fs.length
 |[],ρ,ρ',xs,h=>by
  rw[LK]at h;unfold Dm.eAs at h;split at h
  ·cases h
  rename_i y ρ1 e1;unfold Dm.eAs at h;cases h;exact⟨[],ρ,y,rfl,e1,rfl,rfl⟩
 |g::fs,ρ,ρ',xs,h=>by
  rw[ND]at h;unfold Dm.eAs at h;split at h
  ·cases h
  rename_i z ρ1 e1;split at h
  ·cases h
  rename_i zs ρ2 e2;cases h;obtain⟨ys,ρ3,y,h1,h2,h3,h4⟩:=pX e2;refine⟨z::ys,ρ3,y,?_,h2,by rw[h3];rfl,by rw[Li,Li,h4]⟩;unfold Dm.eAs;rw[e1];dsimp only;rw[h1]
theorem br.Ci{v:V}{x:Dm.Val}(h:eO Hs H0 H σ ρ v x):∀{vs:List V} {xs:List Dm.Val},br Hs H0 H σ ρ vs xs->br Hs H0 H σ ρ (vs++[v]) (xs++[x])
 |_,_,.nil=>.cons h .nil
 |_,_,.cons a r=>.cons a (br.Ci h r)
theorem br.Cj{Hs H0 H H0' H':Hp}{ρ ρ':Dm.Env}(t:ESt σ ρ H0 H ρ' H0' H'):∀{vs:List V} {xs:List Dm.Val},br Hs H0 H σ ρ vs xs->br Hs H0' H' σ ρ' vs xs
 |_,_,.nil=>.nil
 |_,_,.cons a r=>.cons (a.mono t) (br.Cj t r)
theorem br.length':∀{vs:List V} {xs:List Dm.Val},br Hs H0 H σ ρ vs xs->vs.length=xs.length
 |_,_,.nil=>rfl
 |_,_,.cons _ r=>by rw[Li,Li,br.length' r]
theorem xu{g:List Dat->Option RV}{E:XK}{H:Hp}{Q:VK}{fs:List FE}(h:fZ (spD g) [] E (tDA (fs++[f])) σ H Q):vN (spD g) (kw1 fs.length) E (tDA fs) (jM (tD f) ur) σ H Q:=by obtain⟨H0,ρ,xs,ρ',st,e,k⟩:=h;obtain⟨ys,ρ1,y,e1,e2,rfl,hl⟩:=pX e;refine⟨H0,ρ,ys,ρ1,st,e1,fun vs H0' H' t r=>⟨H0',ρ1,y,ρ',t.st,e2,fun v qN H'' t2 r2=>?_⟩⟩;have:=k (vs++[v]) qN H'' (t.trans t2) (br.Ci (r2.early fun a z=>t.stp.gone z) (br.Cj t2 r));dsimp only at this;rw[K4]at this;show spD g (kw1 fs.length vs [v]) H'' Q E;unfold kw1;rw[if_pos ⟨by rw[r.length',hl],rfl⟩];exact this
end
end Br
namespace Dm
noncomputable abbrev FQ:=Env->Dp->Option Dp
end Dm
namespace Br
open PySem PySem.Spec PyProof.Rows L2
def tDQ(j:Nat)(g:Dm.FQ):TS:=fun D σ H=>∃σs ρs H0s Hs H0 ρ p q,MS j σs ρs H0s Hs σ ρ H0 H p/\g ρ p=some q/\∀σ' ρ' v H0' H' fp,SSt σs ρs H0s Hs σ' ρ' H0' H'->bQ (gB σs ρs Hs) H0' H' v q fp->fp.Nodup->(∀a∈fp,H0' a=none)->D.rt v H'
section
variable{X:Cx}{e:Expr}{es:List Expr}{f:FE}{pos:Pos}{j:Nat}{b:Bool}
noncomputable abbrev DHs(X:Cx)(j:Nat)(st:List Stmt)(g:Dm.FQ):Prop:=PSs X st (tDQ j g)
end
end Br
set_option maxHeartbeats 4000000
namespace Ts
open PySem PyProof.Rows
variable{A:Around}{E:Value->Shared->Prop}{s:Shared}{prog:Program}{w:World}
section
variable{vs:List Value}{l:Addr}
def kB(prog:Program)(w:World)(A:Around)(E:Value->Shared->Prop)(s:Shared)(κ:KeyKind)(kd:SortKind)(a₀:Array Keyed):Prop:=
 1<=a₀.size->∀(st:SortSt),SB kd a₀ st->pendingOf st=#[]->∀Q:Unit->SortSt->Prop,(∀st',SB kd a₀ st'->Seg κ (arrOf st') 0 a₀.size->Q () st')->wpS (model prog w) A E s sortRuns' Q st
theorem kB.long{κ:KeyKind}{kd:SortKind}{a₀:Array Keyed}(hL:cW (model prog w) A E s κ kd)(h0:KeysOf κ a₀):kB prog w A E s κ kd a₀:=fun h1 _ hB hp _ h=>sY hL h0 hB hp h1 h
def HX(prog:Program)(w:World)(A:Around)(E:Value->Shared->Prop)(a kS:Addr)(vs keys:List Value)(R:Heap->Prop)(s':Shared):Prop:=
 ∃(κ:KeyKind) (kd:SortKind),KeysOf κ (keys.toArray.zip vs.toArray)/\(2<=vs.length->∀Q:SortKind->Shared->Prop,Q kd s'->wpAny (model prog w) A (keyKind' keys.toArray) Q E s')/\kB prog w A E s' κ kd (keys.toArray.zip vs.toArray) /\
  ∀(xs:Array Keyed) (h'':Heap),xs.Perm (keys.toArray.zip vs.toArray)->Seg κ xs 0 xs.size->(∀b o,b≠a->b≠kS->s'.heap.get? b=some o->h''.get? b=some o)->s'.heap.objs.size<=h''.objs.size->(∃c,h''.get? a=some (seqObj "list" (xs.map (·.2)) c))->R h''
theorem xw{a:Addr}{f:Value}{vs:List Value}{n:Nat}{R:PySem.Fin->Shared->Prop}(J:Addr->Shared->List Value->Prop)
  (ho:s.heap.get? a=some (seqObj "list" vs.toArray n)) (hn:vs.length<=100000)
  (start:∀h',(∀b o,b≠a->s.heap.get? b=some o->h'.get? b=some o)->(∃o,h'.get? a=some o)->(∃o,h'.get? (s.heap.objs.size+1)=some o)->J (s.heap.objs.size+1) { s with heap:=h' } [])
  (Fe:∀s' h'' keys,J (s.heap.objs.size+1) s' keys->(∀b o,b≠a->b≠s.heap.objs.size+1->s'.heap.get? b=some o->h''.get? b=some o)->(∃o,h''.get? a=some o)->(∃o,h''.get? (s.heap.objs.size+1)=some o)->J (s.heap.objs.size+1) { s' with heap:=h'' } keys)
  (turn:∀ i v keys s',vs[i]?=some v→keys.length=i→J (s.heap.objs.size+1) s' keys →
   wpAny (model prog w) A (call f [v]) (fun k s''=>J (s.heap.objs.size+1) s'' (keys++[k])/\∀b o,(b=a\/b=s.heap.objs.size+1)->s'.heap.get? b=some o->s''.heap.get? b=some o) (fun _ _=>False) s')
  (Cq:∀s' keys,J (s.heap.objs.size+1) s' keys->keys.length=vs.length->HX prog w A E a (s.heap.objs.size+1) vs keys (fun h''=>R (.done (.ret .none)) { s' with heap:=h'' }) s') :
  wpAny (model prog w) A (ksk_tree a f false) R E s:=by
 have ha:a<s.heap.objs.size:=KC ho;obtain⟨e1,ho1⟩:∃e1,(s.heap.update a (K0 fun _=>(#[]:Array Value))).get? a=some (seqObj "list" #[] e1):=⟨_,get?_update_seq ho fun _=>#[]⟩
 have hkS:((s.heap.update a (K0 fun _=>(#[]:Array Value))).push (seqObj "tuple" vs.toArray 0)).objs.size=s.heap.objs.size+1:=by rw[size_push',L6]
 unfold ksk_tree;refine wpAny_bind (listItems_at ho rfl ?_);refine wpAny_bind (listUpdate_at ho rfl ?_ (by rw[Ky,sizeLine_eq];lia) (Lc _));refine wpAny_bind (seqEpoch_at ho1 rfl ?_);refine wpAny_bind (wpAny_newTuple ?_ (by show vs.length<=_;rw[sizeLine_eq];lia));refine wpAny_bind (wpAny_newList ?_ (Lc _));refine wpAny_holding ?_;dsimp only;rw[hkS];have hka:s.heap.objs.size+1≠a:=LM (LR ha);have hA3:(((s.heap.update a (K0 fun _=>(#[]:Array Value))).push (seqObj "tuple" vs.toArray 0)).push (seqObj "list" #[] 0)).get? a=some (seqObj "list" #[] e1):=Ds _ (Ds _ ho1);have hK3:(((s.heap.update a (K0 fun _=>(#[]:Array Value))).push (seqObj "tuple" vs.toArray 0)).push (seqObj "list" #[] 0)).get? (s.heap.objs.size+1)=some (seqObj "list" #[] 0):=by rw[<- hkS];exact KU _ rfl
 have hz3:s.heap.objs.size+1<(((s.heap.update a (K0 fun _=>(#[]:Array Value))).push (seqObj "tuple" vs.toArray 0)).push (seqObj "list" #[] 0)).objs.size:=by rw[size_push',hkS];exact NF _
 have hJ:=start _ (fun b o hb e=>Ds _ (Ds (h:=s.heap.update a (K0 fun _=>(#[]:Array Value))) _ (by rw[Lr _ _ _ _ hb];exact e))) ⟨_,hA3⟩ ⟨_,hK3⟩
 generalize (((s.heap.update a (K0 fun _=>(#[]:Array Value))).push (seqObj "tuple" vs.toArray 0)).push (seqObj "list" #[] 0))=h3 at hA3 hK3 hJ
 generalize hkk:s.heap.objs.size+1=kS at *
 unfold ksk_rest;refine wpAny_bind (wpAny_rule ?_)
 first
  |rw[List.forIn_toArray]
  |(rw[<- Array.forIn_toList];simp only[List.toList_toArray])
  |rw[<- Array.forIn_toList]
 refine wpAny_bind (ksk_fold (fun i s'=>∃ keys e,J kS s' keys∧keys.length=i∧s'.heap.get? kS=some (seqObj "list" keys.toArray e)∧s'.heap.get? a=some (seqObj "list" #[] e1)) vs 0 _
  ⟨[],0,hJ,rfl,hK3,hA3⟩ ?step ?done)
 case step=>
  rintro j x s' hx ⟨keys,e,hj,hl,hk,hA⟩;simp only[My]at hl ⊢;have hjl:j<vs.length:=(pe.mp hx).1;refine wpAny_bind (wpAny_attempt (wpAny_mono (turn j x keys s' hx hl hj) (fun v s'' he=>?_) fun _ _ hF=>hF.elim));obtain⟨hj',kp⟩:=he;have hk':=kp kS _ (.inr rfl) hk;have hA':=kp a _ (.inl rfl) hA
  try dsimp only
  obtain⟨c2,hc2⟩:∃c2,(s''.heap.update kS (K0 (·.push v))).get? kS=some (seqObj "list" (keys.toArray.push v) c2):=⟨_,get?_update_seq hk' (·.push v)⟩
  refine wpAny_bind (listUpdate_at hk' rfl ?_ (by rw[Ky,sizeLine_eq];lia) (Nat.le_trans (L3 (Lb ..)) (by rw[Ky,sizeLine_eq];lia)));refine wpAny_pure ⟨rfl,keys++[v],c2,Fe _ _ _ hj' (fun b o _ hb e=>by rw[Lr _ _ _ _ hb];exact e) ⟨_,(by rw[Lr _ _ _ _ hka.symm];exact hA')⟩ ⟨_,hc2⟩,by rw[KL,hl];rfl,?_,?_⟩
  ·rw[hc2];simp
  ·show (s''.heap.update kS _).get? a=_;rw[Lr _ _ _ _ hka.symm];exact hA'
 case done=>
  rintro s' ⟨keys,e,hj,hl,hk,hA⟩;rw[My]at hl
  try dsimp only
  refine wpAny_bind (listItems_at hk rfl ?_);obtain⟨κ,kd,hKK,hkd,hL,hR⟩:=Cq s' keys hj hl;have hzs:(keys.toArray.zip vs.toArray).size=vs.length:=by rw[Array.size_zip,Ky,Ky,hl,Nat.min_self]
  have tail:∀st':SortSt,failedOf st'=none->(arrOf st').Perm (keys.toArray.zip vs.toArray)->Seg κ (arrOf st') 0 (arrOf st').size->wpAny (model prog w) A (ksk_tail a false e1 (.ref kS) st') R E s':=fun st' hf hp hs=>by
   unfold ksk_tail
   try dsimp only
   have hA1:(s'.heap.update kS (K0 fun _=>(#[]:Array Value))).get? a=some (seqObj "list" #[] e1):=by rw[Lr _ _ _ _ hka.symm];exact hA
   refine wpAny_bind (listUpdate_at hk rfl ?_ (by rw[Ky,sizeLine_eq];lia) (Lc _));refine wpAny_bind (wpAny_letGo ?_);refine wpAny_bind (seqEpoch_at hA1 rfl ?_);have hsz:((arrOf st').map (·.2)).size=vs.length:=by rw[Array.size_map,hp.size_eq,hzs]
   refine wpAny_bind (listUpdate_at hA1 rfl ?_ (Lc _) (Nat.le_trans (L3 (by simp only[L7,if_false];exact hsz)) (by rw[sizeLine_eq];lia)));rw[hf];simp only[bne_self_eq_false,L7,if_false];refine wpAny_pure (hR _ _ hp hs (fun b o b1 b2 eb=>?_) ?_ ?_)
   ·rw[Lr _ _ _ _ b1,Lr _ _ _ _ b2];exact eb
   ·rw[L6,L6];exact Nat.le_refl _
   ·exact⟨_,get?_update_seq hA1 fun _=>(arrOf st').map (·.2)⟩
  unfold ksk_end
  try dsimp only
  simp only[L7,if_false];by_cases h2:vs.toArray.size<2
  ·rw[if_pos h2,if_pos h2];refine wpAny_bind (wpAny_pure ?_);rw[StateT.run_pure];refine wpAny_bind (wpAny_pure ?_)
   try dsimp only
   refine tail (MM general' (keys.toArray.zip vs.toArray) #[] 7 none) rfl (Array.Perm.refl _) fun p q _ h2' h3=>?_;have h3':q<(keys.toArray.zip vs.toArray).size:=h3;rw[hzs]at h3';rw[Ky]at h2;have:p=q:=by lia
   subst this;exact LB _
  ·rw[if_neg h2,if_neg h2];rw[Ky]at h2;refine wpAny_bind (hkd (by lia) _ ?_);refine wpAny_bind (wpAny_mono (hL (by rw [hzs];lia) (MM kd (keys.toArray.zip vs.toArray) #[] 7 none) ⟨Array.Perm.refl _,rfl,rfl⟩ rfl
    (fun _ st'=>(arrOf st').Perm (keys.toArray.zip vs.toArray)/\failedOf st'=none/\Seg κ (arrOf st') 0 (keys.toArray.zip vs.toArray).size) fun st' sb sg=>⟨sb.perm,sb.failed,sg⟩) ?_ fun _ _ e=>e)
   rintro⟨⟨⟩,st'⟩ s'' ⟨rfl,hp,hf,hs⟩
   try dsimp only
   exact tail st' hf hp (by rw[hp.size_eq];exact hs)
theorem qZ{q:Addr}{Q:Value->Shared->Prop}(J:Addr->Addr->Shared->List Value->Prop)(hl:s.heap.IsList l vs.toArray)(hn:vs.length<=100000)
  (start:∀h',(∀b o,s.heap.get? b=some o->h'.get? b=some o)->(∃o,h'.get? (s.heap.objs.size+1)=some o)->(∃o,h'.get? (s.heap.objs.size+3)=some o)->J (s.heap.objs.size+1) (s.heap.objs.size+3) { s with heap:=h' } [])
  (Fe:∀a kS s' h'' keys,a=s.heap.objs.size+1->kS=s.heap.objs.size+3->J a kS s' keys->(∀b o,b≠a->b≠kS->s'.heap.get? b=some o->h''.get? b=some o)->(∃o,h''.get? a=some o)->(∃o,h''.get? kS=some o)->J a kS { s' with heap:=h'' } keys)
  (turn:∀ a kS i v keys s',a=s.heap.objs.size+1→kS=s.heap.objs.size+3→vs[i]?=some v→keys.length=i→J a kS s' keys →
   wpAny (model prog w) A.in1.in1 (call (.ref q) [v]) (fun k s''=>J a kS s'' (keys++[k])/\∀b o,(b=a\/b=kS)->s'.heap.get? b=some o->s''.heap.get? b=some o) (fun _ _=>False) s')
  (Cq:∀a kS s' keys (E:Value->Shared->Prop),a=s.heap.objs.size+1->kS=s.heap.objs.size+3->J a kS s' keys->keys.length=vs.length->HX prog w A.in1.in1 E a kS vs keys (fun h''=>Q (.ref a) { s' with heap:=h'' }) s') :
  wpAny (model prog w) A (call (.builtin "sorted") [.ref l] [(NB "key",.ref q)]) Q E s:=by
 refine call_function_entry_kw kind_sorted plain_sorted entry_sorted (ksk_s1 _ _) ?_;unfold Builtin.«sorted»;refine wpAny_bind (m:=checkCount "sorted" 1 1 _) (wpAny_pure ?_);refine wpAny_bind (collect_list hl ?_ (by rw[sizeLine_eq];lia));refine wpAny_bind (wpAny_newList ?_ (by rw[sizeLine_eq];lia));have hsz:((s.heap.push (seqObj "list" #[] 0)).update s.heap.objs.size (K0 (·++vs.toArray))).objs.size=s.heap.objs.size+1:=by rw[L6,size_push']
 have hoL:(((s.heap.push (seqObj "list" #[] 0)).update s.heap.objs.size (K0 (·++vs.toArray))).push (seqObj "list" vs.toArray 0)).get? (s.heap.objs.size+1)=some (seqObj "list" vs.toArray 0):=by rw[<- hsz];exact KU _ rfl
 have hz2:(((s.heap.push (seqObj "list" #[] 0)).update s.heap.objs.size (K0 (·++vs.toArray))).push (seqObj "list" vs.toArray 0)).objs.size=s.heap.objs.size+2:=by rw[size_push',hsz]
 have keep:∀b o,s.heap.get? b=some o->(((s.heap.push (seqObj "list" #[] 0)).update s.heap.objs.size (K0 (·++vs.toArray))).push (seqObj "list" vs.toArray 0)).get? b=some o:=fun b o q=>by have Cs:b<s.heap.objs.size:=KC q;rw[LQ _ _ _ (by rw[hsz];exact KP (LR Cs)),Lr _ _ _ _ (KP Cs),LQ _ _ _ (KP Cs)];exact q
 show wpAny _ _ _ _ _ { s with heap:=((s.heap.push (seqObj "list" #[] 0)).update s.heap.objs.size (K0 (·++vs.toArray))).push (seqObj "list" vs.toArray 0) };rw[hsz];refine wpAny_bind (wpAny_holding (wpAny_call_entry_kw slot_list_sort ⟨_,hoL,rfl⟩ entry_list_sort ?body (ksk_l1 _ _)))
 case body=>
  show wpAny (model prog w) A.in1.in1 (Builtin.«list.sort» ⟨[.ref (s.heap.objs.size+1)],[(NB "key",.ref q)]⟩) _ _ _;rw[ksk_t1];refine xw (s:={ s with heap:=((s.heap.push (seqObj "list" #[] 0)).update s.heap.objs.size (K0 (·++vs.toArray))).push (seqObj "list" vs.toArray 0) }) (J (s.heap.objs.size+1)) hoL hn
   (fun h' k g1 g2=>?_) (fun s' h'' keys hj k g1 g2=>?_) (fun i v keys s' hv hi hj=>?_) fun s' keys hj hk=>?_
  ·dsimp only at g2 ⊢;rw[hz2]at g2 ⊢;exact start h' (fun b o e=>k b o (KP (LR (KC e))) (keep b o e)) g1 g2
  ·dsimp only at hj k g2 ⊢;rw[hz2]at hj k g2 ⊢;exact Fe _ _ s' h'' keys rfl rfl hj k g1 g2
  ·dsimp only at hj ⊢;rw[hz2]at hj ⊢;exact turn _ _ i v keys s' rfl rfl hv hi hj
  ·dsimp only at hj ⊢;rw[hz2]at hj ⊢;obtain⟨κ,kd,z1,z2,z3,z4⟩:=Cq _ _ s' keys E rfl rfl hj hk;refine⟨κ,kd,z1,z2,z3,fun xs h'' y1 y2 y3 y4 y5=>⟨_,rfl,?_⟩⟩;exact wpAny_pure ⟨_,rfl,z4 xs h'' y1 y2 y3 y4 y5⟩
theorem q_{κ:KeyKind}{kd:SortKind}{Q:Value->Shared->Prop}(hl:s.heap.IsList l vs.toArray)(hn:vs.length<=100000)
  (hk:KeysOf κ (pairsOf vs)) (hkk:∀h',(∀b o,s.heap.get? b=some o->h'.get? b=some o)->2<=vs.length->∀{Q:SortKind->Shared->Prop} {E:Value->Shared->Prop},Q kd { s with heap:=h' }->wpAny (model prog w) A.in1.in1 (keyKind' vs.toArray) Q E { s with heap:=h' })
  (hL:∀(E:Value->Shared->Prop) h',(∀b o,s.heap.get? b=some o->h'.get? b=some o)->cW (model prog w) A.in1.in1 E { s with heap:=h' } κ kd)
  (h:∀st':SortSt,(arrOf st').Perm (pairsOf vs)->Seg κ (arrOf st') 0 (pairsOf vs).size->Q (.ref (s.heap.objs.size+1)) { s with heap:=sortedAll s.heap vs ((arrOf st').map (·.2)) }) :
  wpAny (model prog w) A (call (.builtin "sorted") [.ref l]) Q E s:=by
 refine Calls.call_function_entry kind_sorted plain_sorted entry_sorted (args_sorted1 _) ?_;unfold Builtin.«sorted»;refine wpAny_bind (m:=checkCount "sorted" 1 1 _) (wpAny_pure (wpAny_bind (collect_list hl (wpAny_bind (wpAny_newList ?_ (Nat.le_trans hn (by decide)))) (Nat.le_trans hn (by decide)))));have zs:((s.heap.push (seqObj "list" #[] 0)).update s.heap.objs.size (K0 (·++vs.toArray))).objs.size=s.heap.objs.size+1:=by rw[L6,size_push']
 have hL0:(((s.heap.push (seqObj "list" #[] 0)).update s.heap.objs.size (K0 (·++vs.toArray))).push (seqObj "list" vs.toArray 0)).get? (s.heap.objs.size+1)=some (seqObj "list" vs.toArray 0):=by rw[<- zs];exact KU _ rfl
 have up:∀b o,s.heap.get? b=some o->(((s.heap.push (seqObj "list" #[] 0)).update s.heap.objs.size (K0 (·++vs.toArray))).push (seqObj "list" vs.toArray 0)).get? b=some o:=fun b o e=>by have lb:=KC e;rw[LQ _ _ _ (by rw[zs];exact KP (LR lb)),Lr _ _ _ _ (KP lb),LQ _ _ _ (KP lb)];exact e
 show wpAny _ _ _ _ _ { s with heap:=((s.heap.push (seqObj "list" #[] 0)).update s.heap.objs.size (K0 (·++vs.toArray))).push (seqObj "list" vs.toArray 0) };dsimp only;rw[zs];have nb:∀b o,s.heap.get? b=some o->b≠s.heap.objs.size+1:=fun b o e=>KP (LR (KC e));refine wpAny_bind (wpAny_holding (wpAny_call_entry slot_list_sort ⟨_,hL0,rfl⟩ entry_list_sort (Ab (κ:=κ) (kd:=kd) hL0 hn hk (fun h' k h2 {Q} hq=>hkk h' (fun b o e=>k b o (nb b o e) (up b o e)) h2 hq) (fun h' k=>hL _ h' fun b o e=>k b o (nb b o e) (up b o e)) fun st' a1 a2=>⟨_,rfl,?_⟩) (args_list_sort _)));exact wpAny_pure ⟨_,rfl,h st' a1 a2⟩
end
end Ts
namespace Br
open PySem PySem.Spec PyProof.Rows L2
structure Ff(mg:Str->Option Value)(base:Heap)(cd:Value)(P0:Addr):Prop where
 code:∃c0,cd=.ref c0/\Nh base c0 P0
 blt:base.BuiltinsAt mg P0
noncomputable abbrev fC(X:Cx)(params:Arguments)(body:Expr)(scope:Scope)(c:Addr)(ct:Value):Obj:=
 PySem.W.kla_obj "<lambda>" (X.env.qual ++ "<lambda>") params body scope [] ((X.mg "__name__").getD .none) c ct
def rj(H:Hp)(P0 c:Addr)(q:Str):Prop:=∃oc vs t,H c=some (.frz oc (.own P0))/\oc.data=.fields vs/\vs[1]?=some (.str q t)
theorem rj.rec{P:Program}{w:World}{H:Hp}{h:Heap}{P0 c:Addr}{q:Str}(l:rj H P0 c q)(ok:HOk P w H h):h.CodeRec (.ref c) q:=by obtain⟨oc,vs,t,e,d,v⟩:=l;exact⟨c,oc,vs,t,rfl,(ok c _ e).1,d,v⟩
theorem rj.mono{H H':Hp}{P0 c:Addr}{q:Str}(l:rj H P0 c q)(s:ah H H'):rj H' P0 c q:=by obtain⟨oc,vs,t,e,r⟩:=l;exact⟨oc,vs,t,s _ _ e,r⟩
section
variable{X:Cx}{jn:List (Addr×Obj)}{σ:L2.St}{H:Hp}{s:Shared}
theorem Ck(I:Inv X jn σ H s){f:Addr}{o:Obj}(e:s.heap.get? f=some o)(n:H f=none)(nl:f≠X.env.locals)(nf:f∉X.fs)(d:∀v,o.data≠.cell v):Inv X ((f,o)::jn) σ H s:=
 I.jt fun p hp=>by
  rcases KD.mp hp with rfl | hp
  ·exact⟨e,n,nl,nf,d⟩
  ·exact I.pin p (KQ _ hp)
theorem xx{params:Arguments}{body:Expr}{scope:Scope}{lF:Pos}{P0:Addr}{E:Value->Shared->Prop}{Q:Value->Shared->Prop}
  (I:Inv X jn σ H s) (tb:Ff X.mg X.base X.env.code P0) (hcl:closureFor scope X.env=pure []) (hdef:defaultsOf params X.env=([],[]))
  (ht:H P0=some (.tbl (rawInt lF.line) (rawInt lF.col) (X.env.qual ++ "<lambda>")))
  (k:∀f c ct H' s',Inv X ((f,fC X params body scope c ct)::jn) σ H' s'->rj H' P0 c (X.env.qual ++ "<lambda>")->ah H H'->s.heap.objs.size<=s'.heap.objs.size->Q (.ref f) s') :
  wpAny (model X.prog X.w) X.A (eval (.Lambda params body scope lF) X.env) Q E s:=by
 obtain⟨⟨c0,hcode,hC⟩,hB⟩:=tb;obtain⟨ps,hP,d⟩:=I.hok P0 _ ht;have hg:=I.ok.mod.glob.keeps I.bk;have hgP:mainGlobals≠P0:=fun z=>by obtain⟨o,es,ep,e,_⟩:=I.ok.mod.glob;have:=(I.bs _ _ e).2;rw[z,ht]at this;cases this
 have nP:∀b,H b=none->b≠P0:=fun b n z=>by rw[z,ht]at n;cases n
 refine PySem.W.kla_eval hdef ?_;rcases d with rfl | ⟨c,oc,vs,t,rfl,d2,d3,d4⟩
 ·refine PySem.W.kla_makeFunction hcl I.ok.glob hg hcode (hC.keeps I.bk) hP trivial rfl hgP (hB.keeps I.bk) fun c' ctv h' tk hx hge Cs hrec htb=>?_;obtain⟨c2,oc,vs,t,ec,hoc,hd,hv⟩:=hrec;cases ec;have fc:H c'=none:=I.hok.fresh hge;have keep:∀b o,s.heap.get? b=some o->b≠P0->(h'.push (fC X params body scope c' ctv)).get? b=some o:=fun b o e hb=>Ds _ (hx b o hb e);have cP:c'≠P0:=fun z=>by rw[z,ht]at fc;cases fc
  have szs:s.heap.objs.size<=h'.objs.size:=M5 (MH hge Cs);have I2:Inv X jn σ (upd H c' (.frz oc (.own P0))) { s with heap:=h'.push (fC X params body scope c' ctv),gens:=s.gens,drawn:=s.drawn,toks:=tk }:=by
   refine I.step (ch:=[]) (fun _ z=>nomatch z) (fun b o _ _ _ e n=>keep b o e (nP b n)) (fun b o _ _ _ e n=>⟨o.slots,keep b o e (nP b n)⟩)
    (fun b o _ e n=>by rw[af (KP (KN (KC e) hge))];exact n) (fun b o _ e=>?_)
    (fun b xs q=>by rw[af (au q fc)];exact q) (fun b u xs q=>by rw[af (au q fc)];exact q) (fun b _ _ _ q=>by rw[af (au q fc)];exact q) (fun m hm=>?_) (fun b u e=>?_) I.bare
   ·by_cases hb:b=P0
    ·subst hb;exact⟨_,Ds _ htb⟩
    ·exact⟨o,keep b o e hb⟩
   ·obtain⟨o,es,ep,ho,r⟩:=hm;exact⟨o,es,ep,keep _ o ho (nP _ I.free),r⟩
   ·by_cases hb:b=c'
    ·subst hb;rw[aq]at e;cases e;exact⟨Ds _ hoc,_,Ds _ hoc⟩
    ·rw[af hb]at e;by_cases hb2:b=P0
     ·subst hb2;rw[ht]at e;cases e;refine⟨_,Ds _ htb,.inr ⟨c',oc,vs,t,?_,aq,hd,hv⟩⟩;simp
     ·refine(I.hok b u e).stay (fun c v hc q=>keep c v q ?_) (fun c q=>by rw[af (au q fc)];exact q) (fun c _ _ q=>by rw[af (au q fc)];exact q) fun c xs q=>by rw[af (au q fc)];exact q
      rcases hc with rfl | hc
      ·exact hb2
      ·rintro rfl;rw[ht]at hc;cases hc
  refine k _ c' ctv _ _ (Ck I2 (KU _ rfl) ?_ ?_ ?_ fun v z=>by cases z) ⟨oc,vs,t,aq,hd,hv⟩ (fun b o e=>by rw[af (au e fc)];exact e) ?_
  ·rw[af (LM Cs)];exact I.hok.fresh szs
  ·exact LM (KN I.lt szs)
  ·exact I.Dd szs
  ·show _<=(h'.push _).objs.size;rw[Mk];lia
 ·have hf:codeAmong lF [rawInt lF.line,rawInt lF.col,LD c]=some (.ref c):=by
   simp[codeAmong,rawInt]
  refine PySem.W.kla_makeFunctionHit hcl I.ok.glob hg hcode (hC.keeps I.bk) hP trivial hf (hB.keeps I.bk) fun ctv h' tk hk hsz=>?_;have I2:Inv X jn σ H { s with heap:=h'.push (fC X params body scope c ctv),toks:=tk }:=I.kept fun b o e=>Ds _ (hk b o e);refine k _ c ctv _ _ (Ck I2 (KU _ rfl) (I.hok.fresh hsz) (LM (KN I.lt hsz)) (I.Dd hsz) fun v z=>by cases z) ⟨oc,vs,t,d2,d3,d4⟩ (ah.refl _) ?_;show _<=(h'.push _).objs.size;rw[Mk];lia
end
end Br
namespace Dm
section
variable{key:Dat->Option (List Int)}
noncomputable def ltK(key:Dat->Option (List Int))(a b:Dat):Bool:=match key a,key b with
 |some x,some y=>lx x y
 |_,_=>false
noncomputable def keysOf(key:Dat->Option (List Int)):List Dat->Option (List (List Int))
 |[]=>some []
 |d::r=>match key d,keysOf key r with
  |some x,some xs=>some (x::xs)
  |_,_=>none
noncomputable def nZ(b:Nat)(key:Dat->Option (List Int)):List Dat->Option RV
 | [.lst ds]=>if ds.length≤b then (match keysOf key ds with
  |some kss=>if kss.Nodup then some (.new (.lst (aZ (ltK key) ds))) else none
  |none=>none) else none
 |_=>none
noncomputable abbrev fR:(Dat->Option (List Int))->List Dat->Option RV:=nZ 100000
noncomputable def pY:Dat->Option (List Int)
 |.tup [.int n,.tup ks,.lst _]=>(cN ks).map fun ms=>n::ms
 |_=>none
noncomputable def fX(fk:FE)(d:Dat):Option (List Int):=match fk [.sh d] with
 |some (.val (.tup [.int n,.tup ks]),_)=>(cN ks).map fun ms=>n::ms
 |_=>none
theorem mC:∀{ds:List Dat} {kss:List (List Int)},keysOf key ds=some kss->kss.length=ds.length/\∀(i:Nat) (d:Dat),ds[i]?=some d->∃x,kss[i]?=some x/\key d=some x
 |[],kss,e=>by cases e;exact⟨rfl,fun i d h=>by simp at h⟩
 |d::r,kss,e=>by
  unfold keysOf at e;split at e
  ·rename_i x xs e1 e2;cases e;obtain⟨l,h⟩:=mC e2;refine⟨by simp[l],fun i d' hi=>?_⟩;cases i with
   |zero=>cases hi;exact⟨x,rfl,e1⟩
   |succ i=>exact h i d' hi
  ·cases e
theorem gC:∀{l m:List Dat},l.Perm m->(∀a∈l,∀b∈l,ltK key a b=false->ltK key b a=false->a=b)->l.Pairwise (fun a b=>ltK key b a=false)->m.Pairwise (fun a b=>ltK key b a=false)->l=m
 |[],m,p,_,_,_=>(List.nil_perm.mp p).symm
 |x::l,[],p,_,_,_=>by have:=p.length_eq;simp at this
 |x::l,y::m,p,tot,h1,h2=>by
  obtain⟨a1,a2⟩:=LO.mp h1;obtain⟨b1,b2⟩:=LO.mp h2;have e:x=y:=by
   rcases KD.mp (p.mem_iff.mp Kz) with hx | hx
   ·exact hx
   ·have hyl:=p.mem_iff.mpr (Kz (a:=y) (l:=m));rcases KD.mp hyl with hy | hy
    ·exact hy.symm
    ·exact tot x Kz y hyl (b1 x hx) (a1 y hy)
  subst e;rw[gC (M3.cons_inv p) (fun a ha b hb=>tot a (Kw _ ha) b (Kw _ hb)) a2 b2]
theorem cg{a b:Dat}{x y:List Int}(ha:key a=some x)(hb:key b=some y):ltK key a b=lx x y:=by unfold ltK;rw[ha,hb]
theorem gf(key:Dat->Option (List Int))(l:List Dat)(h:∀d∈l,∃x,key d=some x):(aZ (ltK key) l).Pairwise (fun a b=>ltK key b a=false):=by
 have gen:∀l:List Dat,(∀d∈l,∃x,key d=some x)->(aZ (fun a b=>lx ((key a).getD []) ((key b).getD [])) l).Pairwise (fun a b=>lx ((key b).getD []) ((key a).getD [])=false):=fun l _=>
  g9 (fun a b c h1 h2=>by
   cases h:lx ((key c).getD []) ((key a).getD [])
   ·rfl
   ·rcases wZ _ ((key b).getD []) _ h with z | z
    ·rw[z]at h2;cases h2
    ·rw[z]at h1;cases h1) (fun a b h=>by
   cases h':lx ((key b).getD []) ((key a).getD [])
   ·rfl
   ·have:=g8 _ _ _ h h';rw[fP]at this;cases this) l
 have eqs:∀a b:Dat,(∃x,key a=some x)->(∃x,key b=some x)->ltK key a b=lx ((key a).getD []) ((key b).getD []):=fun a b ⟨x,ha⟩ ⟨y,hb⟩=>by rw[cg ha hb,ha,hb];rfl
 have Fg:∀(x:Dat) (m:List Dat),(∃k,key x=some k)->(∀d∈m,∃k,key d=some k)->ins (ltK key) x m=ins (fun a b=>lx ((key a).getD []) ((key b).getD [])) x m:=fun x m hx hm=>by
  induction m with
  |nil=>rfl
  |cons y m ih=>rw[ins,ins,eqs y x (hm y Kz) hx,ih fun d hd=>hm d (Kw _ hd)]
 have isE:∀m:List Dat,(∀d∈m,∃k,key d=some k)->aZ (ltK key) m=aZ (fun a b=>lx ((key a).getD []) ((key b).getD [])) m:=fun m hm=>by
  induction m with
  |nil=>rfl
  |cons y m ih=>rw[aZ,aZ,ih fun d hd=>hm d (Kw _ hd)];exact Fg y _ (hm y Kz) fun d hd=>hm d (Kw _ ((bg _ m).mem_iff.mp hd))
 rw[isE l h];refine(gen l h).imp_of_mem fun {a b} ha hb z=>?_;rw[eqs b a (h b ((bg _ l).mem_iff.mp hb)) (h a ((bg _ l).mem_iff.mp ha))];exact z
end
end Dm
namespace Br
open PySem PySem.Spec PyProof.Rows L2
section
variable{ok:Addr->Bool}{ks:List Int}{v:Value}{H:Hp}
def cz(H:Hp)(v:Value)(ks:List Int)(r:List V):Prop:=∃(a b:Addr) (n:Int) (ms:List Int),v=.ref a/\H a=some (.tup (.int n::.ref b::r))/\H b=some (.tup (ms.map V.int))/\ks=n::ms
noncomputable def kC(H:Hp)(ok:Addr->Bool):Value->Option (List Int)
 | .ref a=>if ok a then (match H a with
  | some (.tup (.int n::.ref b::_))=>(match H b with
   |some (.tup xs)=>(g_ xs).map fun ms=>n::ms
   |_=>none)
  |_=>none) else none
 |_=>none
noncomputable def aX(H:Hp)(ok:Addr->Bool):KeyKind:={ lexOrd with keyOf:=kC H ok,dflt:=([]:List Int) }
theorem ig{r:List V}(h:cz H v ks r)(ho:∀a,v=.ref a->ok a=true):kC H ok v=some ks:=by obtain⟨a,b,n,ms,rfl,h1,h2,rfl⟩:=h;unfold kC;dsimp only;rw[if_pos (ho a rfl),h1];dsimp only;rw[h2];dsimp only;rw[fQ];rfl
theorem fS(h:kC H ok v=some ks):∃r a,v=.ref a/\ok a=true/\cz H v ks r:=by
 unfold kC at h;split at h
 ·rename_i a;split at h
  ·rename_i ho;split at h
   ·rename_i n b r h1;split at h
    ·rename_i xs h2;cases q:g_ xs with
     |none=>rw[q]at h;cases h
     |some ms=>rw[q]at h;cases h;have:=pU q;subst this;exact⟨r,a,rfl,ho,a,b,n,ms,rfl,h1,h2,rfl⟩
    ·cases h
   ·cases h
  ·cases h
 ·cases h
end
section
variable{prog:Program}{w:World}{A:Around}{E:Value->Shared->Prop}{s:Shared}
section
variable{Q:Bool->Shared->Prop}{h:Heap}{H:Hp}
theorem eq_self{a:Addr}(h:Q true s):wpAny (model prog w) A (eqBool (.ref a) (.ref a)) Q E s:=by
 unfold eqBool
 try with_reducible refine wpAny_holding ?_
 show wpAny _ _ (if (LD a == LD a)=true then _ else _) Q E s;rw[if_pos (by simp)];exact wpAny_bind (wpAny_rule (wpAny_pure h))
theorem mD{Cq:Bool}(q:Q Cq s):∀{as:List Addr} (i:Nat),PySem.W.KatLex prog w A true Cq Q ((as.map LD).zip (as.map LD)) i s
 |[],i=>q
 |a::as,i=>by rw[KA,Lw];exact NG (eq_self (NN (mD q (i+1))))
theorem iZ:∀{as:List Addr} {us:List Value},Vals (as.map V.ref) us->us=as.map LD
 |[],_,.nil=>rfl
 |a::as,_,.cons h r=>by cases h;rw[iZ r];rfl
theorem Cm{xs:List Value}{ms:List Int}:IntsAre xs ms->ItemsAre (intKind prog w) ms xs:=fun h=>by
 induction h with
 |nil=>exact .nil
 |cons n t _ ih=>exact .cons (show Value.isInt n (.int n t)=true by simp[Value.isInt]) ih
theorem lt2(hu:A.units<cLine)(ok:HOk prog w H h)(hh:∀b o,h.get? b=some o->s.heap.get? b=some o){x y:Value}{ks ms:List Int}{r r':List V}(kx:cz H x ks r)(ky:cz H y ms r')
  (hl:r.length=r'.length) (hs:ks=ms->∃as:List Addr,r=as.map V.ref/\r'=as.map V.ref) {Q:Bool->Shared->Prop} (q:Q (Dm.lx ks ms) s):wpAny (model prog w) A (keyLt' (tuples' true) x y) Q E s:=by
 obtain⟨a,b,n,ns,rfl,h1,h2,rfl⟩:=kx;obtain⟨a',b',n',ns',rfl,h1',h2',rfl⟩:=ky;obtain⟨_,ts,rt,o,ho,hc,m,hd⟩:=ok a _ h1;obtain⟨_,ts',rt',o',ho',hc',m',hd'⟩:=ok a' _ h1';obtain⟨_,us,ru,p,hp,pc,pm,pd⟩:=ok b _ h2;obtain⟨_,us',ru',p',hp',pc',pm',pd'⟩:=ok b' _ h2';cases rt with
 |cons e1 rt=>
 cases rt with
 |cons e2 rt=>
 cases rt' with
 |cons e1' rt'=>
 cases rt' with
 |cons e2' rt'=>
 obtain⟨t,rfl⟩:=e1;obtain⟨t',rfl⟩:=e1';cases e2;cases e2';have l1:=rt.length;have l2:=rt'.length;have iu:=intsAre_of ru;have iu':=intsAre_of ru';refine PySem.W.kat_lt (hh _ _ ho) hd (hh _ _ ho') hd' ?_;rw[Lw,Lw];refine NG (wpAny_eqBool_int ?_);rw[Dm.lx]at q;by_cases e:n=n'
 ·rw[if_pos e]at q;have:(n == n')=true:=by simpa using e
  rw[this];refine NN (NG (wpAny_eqBool_tuple (knd:=intKind prog w) hu ⟨p,_,pm,hh _ _ hp,pc,pd,Cm iu⟩ ⟨p',_,pm',hh _ _ hp',pc',pd',Cm iu'⟩ ?_));by_cases e':ns=ns'
  ·subst e e';rw[decide_eq_true rfl];obtain⟨as,rfl,rfl⟩:=hs rfl;rw[iZ rt,iZ rt'];refine NN (mD ?_ _);rw[Dm.fP]at q
   simpa using q
  ·rw[decide_eq_false e'];refine PySem.W.kat_no ?_;refine PySem.W.kat_one _ _ ?_;show wpAny _ _ (richCompare .Lt (.ref b) (.ref b')) _ _ s;exact E6 (hh _ _ hp) pc pd iu (hh _ _ hp') pc' pd' iu' hu q
 ·rw[if_neg e]at q;have:(n == n')=false:=by simpa using e
  rw[this];exact PySem.W.kat_no (oneLt_int q)
theorem Cn(ok:HOk prog w H h)(hh:∀b o,h.get? b=some o->s.heap.get? b=some o){vs:List Value}(hv:∀v∈vs,∃ks r,cz H v ks r)(h2:2<=vs.length){Q:SortKind->Shared->Prop}(q:Q (tuples' true) s) :
  wpAny (model prog w) A (keyKind' vs.toArray) Q E s:=by
 have tups:∀l:List Value,(∀v∈l,∃ks r,cz H v ks r)->∃fs,PySem.W.KatTups s.heap l fs/\fs.length=l.length/\∀f∈fs,∃n t,f=Value.int n t:=fun l=>by
  induction l with
  |nil=>intro _;exact⟨[],.nil,rfl,fun f hf=>by cases hf⟩
  |cons v l ih=>
   intro hl';obtain⟨ks,r,a,b,n,ns,rfl,h1,h2,rfl⟩:=hl' v Kz;obtain⟨fs,t,lf,hf⟩:=ih fun z hz=>hl' z (Kw _ hz);obtain⟨_,ts,rt,o,ho,hc,m,hd⟩:=ok a _ h1;cases rt with
   |cons e1 rt=>
    obtain⟨t1,rfl⟩:=e1;refine⟨_::fs,.cons (hh _ _ ho) hc hd (f:=.int n t1) (by simp) t,by simp[lf],fun f hm=>?_⟩;rcases KD.mp hm with rfl | hm
    ·exact⟨_,_,rfl⟩
    ·exact hf f hm
 obtain⟨fs,t,lf,hf⟩:=tups vs hv;refine PySem.W.kat_kind (T:=.type "int") t (by lia) (fun f hm=>?_) (by rfl) q;obtain⟨n,tk,rfl⟩:=hf f hm;exact .now
end
end
section
variable{key:Dat->Option (List Int)}{ds:List Dat}{α β:Type}{H0 H:Hp}
theorem i0(f:α->β):∀{l':List β} {m:List β},l'.Perm m->∀l:List α,l.map f=m->∃k:List α,k.Perm l/\k.map f=l':=fun {l' m} p=>by
 induction p with
 |nil=>intro l e;exact⟨[],by rw[List.map_eq_nil_iff.mp e],rfl⟩
 |cons x p ih=>intro l e;obtain⟨a,r,rfl,rfl,e2⟩:=Na.mp e;obtain⟨k,k1,k2⟩:=ih r e2;exact⟨a::k,k1.cons a,by rw[KA,k2]⟩
 |swap x y l0=>intro l e;obtain⟨a,r,rfl,rfl,e2⟩:=Na.mp e;obtain⟨b,r2,rfl,rfl,e3⟩:=Na.mp e2;exact⟨b::a::r2,M3.swap a b r2,by rw[KA,KA,e3]⟩
 |trans p1 p2 i1 i2=>intro l e;obtain⟨k,k1,k2⟩:=i2 l e;obtain⟨k',k3,k4⟩:=i1 k k2;exact⟨k',k3.trans k1,k4⟩
structure Qd where
 k:Value
 v:Value
 u:V
 d:Dat
 ks:List Int
structure Qd.Ok(H0 H:Hp)(key:Dat->Option (List Int))(q:Qd):Prop where
 k2:∃r,cz H q.k q.ks r
 rel:RelV q.u q.v
 rep:Rep H0 q.u q.d
 key:key q.d=some q.ks
theorem Co:∀{us:List V} {its keys:List Value} {ds:List Dat} {kss:List (List Int)},Paired (fun k ks=>∃r,cz H k ks r) keys kss->Vals us its->av H0 us ds->Dm.keysOf key ds=some kss ->
  ∃qs:List Qd,qs.map (fun q=>(q.k,q.v))=keys.zip its/\qs.map (·.d)=ds/\qs.map (·.ks)=kss/\∀q∈qs,q.Ok H0 H key
 |[],_,keys,_,kss,p,.nil,.nil,e=>by cases e;cases p;exact⟨[],rfl,rfl,rfl,fun q h=>by cases h⟩
 |u::us,v::its,keys,d::ds,kss,p,.cons hv rv,.cons hr rr,e=>by
  unfold Dm.keysOf at e;split at e
  ·rename_i x xs e1 e2;cases e;cases p with
   |cons h t=>
    rename_i k keys';obtain⟨qs,a1,a2,a3,a4⟩:=Co t rv rr e2;refine⟨⟨k,v,u,d,x⟩::qs,by rw[KA,a1];rfl,by rw[KA,a2],by rw[KA,a3],fun q hq=>?_⟩;rcases KD.mp hq with rfl | hq
    ·exact⟨h,hv,hr,e1⟩
    ·exact a4 q hq
  ·cases e
theorem n6{f:α->β}{l:List α}(h:(l.map f).Nodup){a b:α}(ha:a∈l)(hb:b∈l)(e:f a=f b):a=b:=by obtain⟨i,hi,rfl⟩:=Nc ha;obtain⟨j,hj,rfl⟩:=Nc hb;have:i=j:=(List.getElem_inj (h₀:=by simpa using hi) (h₁:=by simpa using hj) h).mp (by simpa using e);subst this;rfl
theorem uQ{ok:Addr->Bool}{key:Dat->Option (List Int)}{keys its:List Value}{us:List V}{kss:List (List Int)}(pk:Paired (fun k ks=>∃r,cz H k ks r) keys kss)(rv:Vals us its)(rr:av H0 us ds)
  (e:Dm.keysOf key ds=some kss) (nd:kss.Nodup) (hok:∀k∈keys,∀a,k=.ref a->ok a=true) {xs:Array Keyed} (hp:xs.Perm (keys.toArray.zip its.toArray)) (hs:Ts.Seg (aX H ok) xs 0 xs.size) :
  ∃(zs:List V) (out:List Value),xs.map (·.2)=out.toArray/\Vals zs out/\zs.length=us.length/\av H0 zs (Dm.aZ (Dm.ltK key) ds):=by
 obtain⟨qs,a1,a2,a3,a4⟩:=Co pk rv rr e;have pm:xs.toList.Perm (keys.zip its):=by
  have:=LV.mp hp
  rwa [show (keys.toArray.zip its.toArray).toList=keys.zip its by simp]at this
 obtain⟨qs',b1,b2⟩:=i0 (fun q:Qd=>(q.k,q.v)) pm qs a1;have ok':∀q∈qs',q.Ok H0 H key:=fun q hq=>a4 q (b1.mem_iff.mp hq);have mk:∀q∈qs',q.k∈keys:=fun q hq=>by
  have:(q.k,q.v)∈keys.zip its:=by rw[<- a1];exact List.mem_map_of_mem (b1.mem_iff.mp hq)
  exact(Mb this).1
 have kq:∀q∈qs',kC H ok q.k=some q.ks:=fun q hq=>by obtain⟨r,z⟩:=(ok' q hq).k2;exact ig z (hok _ (mk q hq))
 have ka:KeysOf (aX H ok) xs:=fun p hp=>by rw[<- b2]at hp;obtain⟨q,hq,rfl⟩:=Lz.mp hp;exact⟨q.ks,kq q hq⟩
 have so:qs'.Pairwise (fun x y=>Dm.lx y.ks x.ks=false):=by have:=(Ts.cY ka (i:=0) (j:=xs.size) (Nat.le_refl _)).mp hs;rw[Ts.dB,NT,<- b2,Mw]at this;refine this.imp_of_mem fun {x y} hx hy hle=>?_;have hle':Dm.lx (Ts.kp (aX H ok) (y.k,y.v)) (Ts.kp (aX H ok) (x.k,x.v))=false:=hle;unfold Ts.kp at hle';have e1:(aX H ok).keyOf (x.k,x.v).1=some x.ks:=kq x hx;have e2:(aX H ok).keyOf (y.k,y.v).1=some y.ks:=kq y hy;rw[e1,e2]at hle';exact hle'
 have es:qs'.map (·.d)=Dm.aZ (Dm.ltK key) ds:=by
  have hk:∀d∈ds,∃x,key d=some x:=fun d hd=>by rw[<- a2]at hd;obtain⟨q,hq,rfl⟩:=Lz.mp hd;exact⟨_,(a4 q hq).key⟩
  refine Dm.gC (((b1.map (·.d)).trans (.of_eq a2)).trans (Dm.bg _ ds).symm) (fun a ha b hb h1 h2=>?_) ?_ (Dm.gf key ds hk)
  ·obtain⟨x,hx,rfl⟩:=Lz.mp ha;obtain⟨y,hy,rfl⟩:=Lz.mp hb;rw[Dm.cg (ok' x hx).key (ok' y hy).key]at h1;rw[Dm.cg (ok' y hy).key (ok' x hx).key]at h2;have:=Dm.fu _ _ h1 h2;rw[n6 (f:=Qd.ks) (by rw[a3];exact nd) (b1.mem_iff.mp hx) (b1.mem_iff.mp hy) this]
  ·rw[Mw];refine so.imp_of_mem fun {x y} hx hy h=>?_;rw[Dm.cg (ok' y hy).key (ok' x hx).key];exact h
 have vals:∀l:List Qd,(∀q∈l,q.Ok H0 H key)->Vals (l.map (·.u)) (l.map (·.v))/\av H0 (l.map (·.u)) (l.map (·.d)):=fun l=>by
  induction l with
  |nil=>intro _;exact⟨.nil,.nil⟩
  |cons q l ih=>intro h;obtain⟨i1,i2⟩:=ih fun z hz=>h z (Kw _ hz);exact⟨.cons (h q Kz).rel i1,.cons (h q Kz).rep i2⟩
 obtain⟨v1,v2⟩:=vals qs' ok';refine⟨qs'.map (·.u),qs'.map (·.v),?_,v1,?_,?_⟩
 ·apply Array.toList_inj.mp;rw[Array.toList_map,<- b2,Lq];rfl
 ·rw[gp,b1.length_eq,rr.length];have:=congrArg List.length a2
  rwa [gp]at this
 ·rw[<- es];exact v2
def rD(g:List Dat->Option RV):List V->Hp->VK->Prop:=fun vs H Q=>∃H0 ds z,ah H0 H/\lT H0 H vs ds/\g ds=some z/\∀v H0' H',aJ H0 H H0' H'->pB H H0' H' v z->Q v H'
theorem HY(g:List Dat->Option RV):CallD (rD g) g:=fun H0 H vs ds z Q s rs e k=>⟨H0,ds,z,s,rs,e,k⟩
theorem pZ{b:Nat}{z:RV}(e:Dm.nZ b key ds=some z):∃xs kss,ds=[.lst xs]/\xs.length<=b/\Dm.keysOf key xs=some kss/\kss.Nodup/\z=.new (.lst (Dm.aZ (Dm.ltK key) xs)):=by
 unfold Dm.nZ at e;split at e
 ·split at e
  ·split at e
   ·split at e
    ·rename_i h1 _ kss h2 h3;cases e;exact⟨_,kss,rfl,h1,h2,h3,rfl⟩
    ·cases e
   ·cases e
  ·cases e
 ·cases e
theorem xy{H0:Hp}{u:V}{d:Dat}{ks:List Int}(r:Rep H0 u d)(e:Dm.pY d=some ks):∃a l,u=.ref a/\∀v,RelV u v->cz H0 v ks [.ref l]:=by
 unfold Dm.pY at e;split at e
 ·rename_i n ds ls;cases q:Dm.cN ds with
  |none=>rw[q]at e;cases e
  |some ms=>
   rw[q]at e;cases e;cases r with
   |tup h rs=>
    cases rs with
    |cons r1 rs=>
    cases rs with
    |cons r2 rs=>
    cases rs with
    |cons r3 rs=>
    cases rs;cases r1;cases r2 with
    |tup h2 rs2=>
     have:=kc rs2 q;subst this;cases r3 with
     |lst h3 rs3=>rename_i l _;refine⟨_,l,rfl,fun v hv=>?_⟩;cases hv;exact⟨_,_,n,ms,rfl,h,h2,rfl⟩
 ·cases e
end
section
variable{X:Cx}
theorem rm{k:Nat}(hr:aV k X.A):dM X (.builtin "sorted") (rD (Dm.fR Dm.pY)):=by
 intro jn s σ H xs us Q I r h;obtain⟨H0,ds,z,sm,rs,e,kk⟩:=h;obtain⟨xd,kss,rfl,hz,hk,nd,rfl⟩:=pZ e;cases rs with
 |cons r1 rr=>
 cases rr;obtain⟨a,ys,rfl,qa,ra⟩:=bI sm r1;obtain⟨u,rfl,rx⟩:=vals1 r;cases rx;obtain⟨its,rv,pl,hzz⟩:=I.list (.inl qa);have xR:=rv.length;have hlen2:=ra.length;have pk:∀{ys:List V} {its:List Value} {xd:List Dat} {kss:List (List Int)},Vals ys its->av H0 ys xd->Dm.keysOf Dm.pY xd=some kss->Paired (fun k ks=>∃l,cz H0 k ks [.ref l]) its kss:=fun {ys}=>by
  induction ys with
  |nil=>intro its xd kss rv ra e;cases rv;cases ra;cases e;exact .nil
  |cons y ys ih=>
   intro its xd kss rv ra e;cases rv with
   |cons v1 v2=>
   cases ra with
   |cons w1 w2=>
   unfold Dm.keysOf at e;split at e
   ·rename_i x xs e1 e2;cases e;obtain⟨_,l,_,z⟩:=xy w1 e1;exact .cons ⟨l,z _ v1⟩ (ih v2 w2 e2)
   ·cases e
 have pk1:=pk rv ra hk;have up2:∀{v:Value} {ks:List Int} {r:List V},cz H0 v ks r->cz H v ks r:=fun {v ks r} ⟨a,b,n,ms,e,h1,h2,h3⟩=>⟨a,b,n,ms,e,sm _ _ h1,sm _ _ h2,h3⟩;have mem:∀{its:List Value} {kss:List (List Int)},Paired (fun k ks=>∃l,cz H0 k ks [.ref l]) its kss->∀v∈its,∃ks l,ks∈kss/\cz H v ks [.ref l]:=fun {its}=>by
  induction its with
  |nil=>intro kss p v hv;cases hv
  |cons w its ih=>
   intro kss p v hv;cases p with
   |cons h t=>
    rcases KD.mp hv with rfl | hv
    ·obtain⟨l,h⟩:=h;exact⟨_,l,Kz,up2 h⟩
    ·obtain⟨ks,l,m,z⟩:=ih t v hv;exact⟨ks,l,Kw _ m,z⟩
 have uniq:∀{its:List Value} {kss:List (List Int)},Paired (fun k ks=>∃l,cz H0 k ks [.ref l]) its kss->kss.Nodup->∀v∈its,∀w∈its,∀ks l l',cz H v ks [.ref l]->cz H w ks [.ref l']->v=w:=fun {its}=>by
  induction its with
  |nil=>intro kss p _ v hv;cases hv
  |cons x its ih=>
   intro kss p nd v hv w hw ks l l' kv kw;have same:∀{v:Value} {ks ms:List Int} {r r':List V},cz H v ks r->cz H v ms r'->ks=ms:=fun {v ks ms r r'} ⟨a,b,n,ns,e,h1,h2,h3⟩ ⟨a',b',n',ns',e',h1',h2',h3'⟩=>by
    rw[e]at e';cases e';rw[h1]at h1';cases h1';rw[h2]at h2';have:ns.map V.int=ns'.map V.int:=by injection h2' with z;injection z
    have inj:ns=ns':=by have:=congrArg g_ this;rw[fQ,fQ]at this;exact Option.some.inj this
    rw[h3,h3',inj]
   cases p with
   |cons h t=>
    rename_i k0 Kn;obtain⟨l0,h⟩:=h;obtain⟨nd1,nd2⟩:=LI.mp nd;rcases KD.mp hv with e0 | hv'
    ·rcases KD.mp hw with e3 | hw'
     ·rw[e0,e3]
     ·obtain⟨ks',l2,m,z⟩:=mem t w hw';rw[e0]at kv;have e1:=same kv (up2 h);have e2:=same kw z;rw[<- e2,e1]at m;exact absurd m nd1
    ·rcases KD.mp hw with e0 | hw'
     ·obtain⟨ks',l2,m,z⟩:=mem t v hv';rw[e0]at kw;have e1:=same kw (up2 h);have e2:=same kv z;rw[<- e2,e1]at m;exact absurd m nd1
     ·exact ih t nd2 v hv' w hw' ks l l' kv kw
 let ok:Addr->Bool:=fun a=>its.any fun v=>v == .ref a
 have okT:∀v∈its,∀a,v=.ref a->ok a=true:=fun v hv a e=>by subst e;exact M0.mpr ⟨_,hv,by simp⟩
 have okI:∀a,ok a=true->LD a∈its:=fun a h=>by
  obtain⟨v,hv,e⟩:=M0.mp h;have:v=.ref a:=by simpa using e
  subst this;exact hv
 have hkeys:KeysOf (aX H ok) (pairsOf its):=fun q hq=>by obtain⟨e1,hm⟩:=uN hq;obtain⟨ks,l,_,z⟩:=mem pk1 q.1 hm;exact⟨ks,ig z (okT _ hm)⟩
 have hu:X.A.in1.in1.units<cLine:=by have:=hr.units;show X.A.units+1+1<_;lia
 refine Ts.q_ (κ:=aX H ok) (kd:=tuples' true) pl.isList (by lia) hkeys (fun h' kp h2 {Q'} {E'} hq'=>?_) (fun E' h' kp=>?_) fun st' hp hs=>?_
 ·exact Cn (s:={ s with heap:=h' }) I.hok kp (fun v hv=>by obtain⟨ks,l,_,z⟩:=mem pk1 v hv;exact⟨ks,_,z⟩) h2 hq'
 ·refine l_ fun x y kx ky {Q'} {E''} hx hy q=>?_;obtain⟨r1,a1,e1,o1,k1⟩:=fS hx;obtain⟨r2,a2,e2,o2,k2⟩:=fS hy;have m1:x.1∈its:=by rw[e1];exact okI _ o1
  have m2:y.1∈its:=by rw[e2];exact okI _ o2
  obtain⟨ks1,l1,_,z1⟩:=mem pk1 _ m1;obtain⟨ks2,l2,_,z2⟩:=mem pk1 _ m2;have xN:∀{v:Value} {ks ms:List Int} {r r':List V},cz H v ks r->cz H v ms r'->r=r':=fun {v ks ms r r'} ⟨a,b,n,ns,e,h1,h2,h3⟩ ⟨a',b',n',ns',e',h1',h2',h3'⟩=>by rw[e]at e';cases e';rw[h1]at h1';cases h1';rfl
  have q1:=xN k1 z1;have q2:=xN k2 z2;subst q1 q2;refine lt2 (s:={ s with heap:=h' }) hu I.hok kp k1 k2 rfl (fun e=>?_) q;subst e;have:=uniq pk1 nd _ m1 _ m2 _ _ _ k1 k2;rw[this]at k1;have:=xN k1 k2;exact⟨[l2],this,rfl⟩
 ·have hs':Ts.Seg (aX H ok) (arrOf st') 0 (arrOf st').size:=by rw[hp.size_eq];exact hs
  have pk2:Paired (fun k ks=>∃r,cz H k ks r) its kss:=Paired.vp pk1 fun k ks ⟨l,z⟩=>⟨_,up2 z⟩;obtain⟨zs,out,eo,vo,lz,rz⟩:=uQ (H0:=H0) pk2 rv ra hk nd okT hp hs';rw[eo];obtain⟨c,hc⟩:=sortedAll_at s.heap its out.toArray;have hl:H (s.heap.objs.size+1)=none:=I.hok.fresh (Nk _);have hz2:zs.length<=sizeLine:=by rw[lz];exact hzz
  exact⟨.ref (s.heap.objs.size+1),_,I.laid (t':=s.toks) (fun _ _=>sortedAll_old) (Nk _) (show bq X.prog X.w _ _ _ (.lst zs) from ⟨hz2,out,c,vo,hc⟩),rfl,kk _ H0 _ (aJ.lu sm hl) ⟨_,rfl,hl,sm.free hl,_,aq,rz⟩⟩
theorem Av{e:Expr}{fs:List FE}{p pos:Pos}{k:Nat}(hr:aV k X.A)(hg:Gl X "sorted")(hm:X.mg "sorted" = none)(ha:DA X [e] fs)(he:starEach [e] X.env=[(false,eval e X.env)]:=by rfl)(A3:(backTo pos (starEach [] X.env)).any (·.1)=false:=by rfl) :
  DE X (.Call (.Name "sorted" p) [e] [] pos) (Dm.eB (Dm.fR Dm.pY) fs):=uE (rm hr) (HY _) (by rfl) hg hm ha (he:=he) (A3:=A3)
end
section
variable{α β:Type}{d:Dat}
theorem Aw{P:Program}{w:World}{K:gb}{mg:Str->Option Value}{base:Heap}{f c:Addr}{qual:Str}{params:Arguments}{body:Expr}{scope:Scope}{pm ct:Value}{N ps:List Str}{k:Nat}{A:Around}{outer:List Env}{s:Shared}{H:Hp}
  {args:Args} {us:List Value} {vs:List V} {t:TE} {Q:VK} (S:ao N ps scope) (hr:aV k A) (e0:o6 P w K mg base A outer s H)
  (ho:s.heap.get? f=some (PySem.W.kla_obj "<lambda>" qual params body scope [] pm c ct)) (FG:s.heap.CodeRec (.ref c) qual)
  (hb:bindArgs (NW "<lambda>" qual params body scope [] pm (.ref c) ct) args=pure (ps.zip us)) (r:Vals vs us) (hl:vs.length=ps.length)
  (hbody:PE (gS CX0 P w K mg base N qual scope f (.ref c) A outer s H E0).nox body t) (hq:t (start N vs) H Q) :
  codeAny (model P w) A (.call (.ref f) args) (CR CX0 outer P w H s Q E0) s:=by
 have lim:s.heap.NoLimit:=e0.mod.nolimit.keeps fun b o e=>(e0.bs b o e).1;have hkind:∀y∈ps.zip us,scope.names.lookup y.1=some .local\/(scope.names.lookup y.1=some .cell/\((cellsFrom (s.heap.objs.size+1) scope.names []).lookup y.1).isSome=true):=fun⟨n,v⟩ hy=>by
  rcases S.par n (Mb hy).1 with q | q
  ·exact .inl q
  ·exact .inr ⟨q,MU _ _ _ (.inl q)⟩
 refine PySem.W.kla_callFunE hr.depth ho rfl S.co S.gen rfl FG ?_;rw[hb];refine wpAny_pure (wpAny_newFunctionEnv_cells S.kind hkind fun env he s1 x=>?_);subst he;refine⟨lim.keeps x.toInCall.keep,PySem.W.kla_codeExpr ?_⟩;have I:Inv (gS CX0 P w K mg base N qual scope f (.ref c) A outer s H E0) [] (start N vs) H s1:=lQ S hr.hd e0 hl r x;refine wpAny_mono (hbody.nox [] s1 (start N vs) H _ I hq) (fun u s' hs=>?_) fun e s' hs=>hs;obtain⟨v,H',J,rv,q⟩:=hs;exact⟨v,H',J.os,J.bare,J.base,J.hok,rv,q⟩
theorem xA{fk:FE}{ks:List Int}(e:Dm.fX fk d=some ks):∃n ds ms ρ',fk [.sh d]=some (.val (.tup [.int n,.tup ds]),ρ')/\Dm.cN ds=some ms/\ks=n::ms:=by
 unfold Dm.fX at e;split at e
 ·rename_i n ds ρ' h;cases q:Dm.cN ds with
  |none=>rw[q]at e;cases e
  |some ms=>rw[q]at e;cases e;exact⟨n,ds,ms,_,h,q,rfl⟩
 ·cases e
theorem jd{F:α->β->Prop}:∀{l:List α} {m:List β} {a:α} {b:β},Paired F l m->F a b->Paired F (l++[a]) (m++[b])
 |_,_,_,_,.nil,h=>.cons h .nil
 |_,_,_,_,.cons x r,h=>.cons x (jd r h)
theorem gD{F:α->β->Prop}:∀{l:List α} {m:List β},Paired F l m->l.length=m.length
 |_,_,.nil=>rfl
 |_,_,.cons _ r=>by simp[gD r]
theorem d9{F:α->β->Prop}:∀{l:List α} {m:List β},Paired F l m->∀a∈l,∃b∈m,F a b
 |_,_,.cons h r,a,ha=>by
  rcases KD.mp ha with rfl | ha
  ·exact⟨_,Kz,h⟩
  ·obtain⟨b,hb,z⟩:=d9 r a ha;exact⟨b,Kw _ hb,z⟩
theorem Ax{H0 H:Hp}{u:V}{x:Str}(sm:ah H0 H)(r:Rep H0 u d):ak H0 H (start [x] [u]) [.sh d] where
 same:=sm
 len:=rfl
 sh:=fun i e h=>by
  cases i with
  |zero=>cases h;exact⟨u,rfl,r⟩
  |succ i=>simp at h
 ow:=fun i e h=>by
  cases i with
  |zero=>cases h
  |succ i=>simp at h
 dis:=fun i j e e' a h=>by
  cases i with
  |zero=>cases h
  |succ i=>simp at h
end
section
variable{X:Cx}
def KJ(X:Cx)(jn:List (Addr×Obj))(σ:L2.St)(H2:Hp)(kss:List (List Int))(a kS:Addr)(s':Shared)(keys:List Value):Prop:=
 ∃H',Inv X jn σ H' s'/\ah H2 H'/\(∀b,b=a\/b=kS->jK X jn H' b/\∃o,s'.heap.get? b=some o)/\∃done xN,kss=done++xN/\Paired (fun k ks=>∃r,r=[]/\cz H' k ks r) keys done
end
structure TbZ where
 c:Addr
 P:Addr
 ln:Value
 cl:Value
 q:Str
def Tbs(tb:List TbZ)(H:Hp):Prop:=∀z∈tb,H z.P=some (.tbl z.ln z.cl z.q)
def ir(mg:Str->Option Value)(base:Heap)(z:TbZ):Prop:=Nh base z.c z.P/\base.BuiltinsAt mg z.P
def spT(tb:List TbZ)(g:List Dat->Option RV):Sp:=fun vs H Q E=>Tbs tb H/\spD g vs H Q E
theorem ir.tab{mg:Str->Option Value}{base:Heap}{z:TbZ}{cd:Value}(b:ir mg base z)(e:cd=.ref z.c):Ff mg base cd z.P:=⟨⟨_,e,b.1⟩,b.2⟩
section
variable{X:Cx}
section
variable{g:List Dat->Option RV}{fd:FuncData}{ps:List Str}{F:Addr}{x:Str}{k:Nat}
def Fi(tb:List TbZ)(t:TA):TA:=fun σ H Q=>t σ H fun vs H1=>Tbs tb H1->Q vs H1
theorem PA.inv{es:List Expr}{t:TA}{tb:List TbZ}(h:PA X es t)(ht:Tbs tb X.H₀):PA X es (Fi tb t):=fun pos jn s σ H Q I q=>thn (h pos jn s σ H _ I q) fun us s1 ⟨vs,H1,I1,r,q1⟩=>⟨vs,H1,I1,r,q1 fun z hz=>I1.base.iK _ _ _ _ (ht z hz)⟩
variable{e:Expr}{es:List Expr}{fs:List FE}{p pos:Pos}
theorem Ay{tb:List TbZ}(ht:Tbs tb X.H₀)(G:aO X.prog X.w X.K X.mg X.base CX0 k F fd ps (spT tb g))(hr:aV k X.A)(hg:Gl X x)(hm:X.mg x=some (.ref F))(hk:Le X.K (.ref F)=true)(hb:Binds X.K fd ps [])
  (ha:DA X (e::es) fs) (FF:(x == ("__debug__" : Str))=false:=by decide) (he:starEach (e::es) X.env=(false,eval e X.env)::starEach es X.env:=by rfl) (A3:(backTo pos (starEach es X.env)).any (·.1)=false:=by rfl) :
  DE X (.Call (.Name x p) (e::es) [] pos) (Dm.eF g fs):=PE.weak (dh G hr hg hm hk hb .nil (gT (X:=X)) (PA.inv ha ht) FF he A3) fun σ H Q h=>by
 obtain⟨H0,ρ,xs,ρ',st,e,k⟩:=nE (E:=E0) h;exact⟨H0,ρ,xs,ρ',st,e,fun vs H0' H' es rs ht=>⟨ht,k vs H0' H' es rs⟩⟩
theorem xB{c:Int}{tk:Tok}{tb:List TbZ}(ht:Tbs tb X.H₀)(G:aO X.prog X.w X.K X.mg X.base CX0 k F fd ps (spT tb g))(hr:aV k X.A)(hg:Gl X x)(hm:X.mg x=some (.ref F))(hk:Le X.K (.ref F)=true)(hb:Binds X.K fd ps [.int c tk])
  (ha:DA X (e::es) fs) (FF:(x == ("__debug__" : Str))=false:=by decide) (he:starEach (e::es) X.env=(false,eval e X.env)::starEach es X.env:=by rfl) (A3:(backTo pos (starEach es X.env)).any (·.1)=false:=by rfl) :
  DE X (.Call (.Name x p) (e::es) [] pos) (Dm.eF (fun ds=>g (ds++[.int c])) fs):=PE.weak (dh G hr hg hm hk hb (dvs:=[.int c]) (.cons (show RelV (.int c) (.int c tk) from ⟨tk,rfl⟩) .nil) (gT (X:=X)) (PA.inv ha ht) FF he A3) fun σ H Q h=>by
 obtain⟨H0,ρ,xs,ρ',st,e,k⟩:=Ah (E:=E0) h;exact⟨H0,ρ,xs,ρ',st,e,fun vs H0' H' es rs ht=>⟨ht,k vs H0' H' es rs⟩⟩
end
end
section
variable{P:Program}{w:World}{K:gb}{mg:Str->Option Value}{base:Heap}
theorem Az{x qual:Str}{st:Stmt}{f:Addr}{fd:FuncData}{N ps:List Str}{k:Nat}{g:List Dat->Option RV}{tb:List TbZ}(F:Fun K x qual st f fd)(S:ao N ps (aa st))(len:∀vs H Q E,spD g vs H Q E->vs.length=ps.length)
  (hbody:∀ (cdv:Value) (A:Around) (outer:List Env) (s:Shared) (H:Hp) (vs:List V) (Q:VK) (E:XK),cdv=fd.code→aV k (A.deeper (envOfC qual (aa st) s.heap.objs.size f cdv))→Tbs tb H→spD g vs H Q E →
   ∃t,PSs (gS CX0 P w K mg base N qual (aa st) f cdv A outer s H E).nox (aH st) t/\t { nx:=fun _ H'=>Q .non H',rt:=Q } (start N vs) H):aO P w K mg base CX0 (k+1) f fd ps (spT tb g):=by
 obtain⟨oc,od,kV,doc,pm,an,cdv,ct,osl,rfl,lk,FG⟩:=F.ex;refine r9 lk FG S (fun vs H Q E h=>len vs H Q E h.2) fun A outer s H vs Q E hr hsp=>?_;obtain⟨t,h,q⟩:=hbody cdv A outer s H vs Q E rfl hr hsp.1 hsp.2;exact⟨t,h.nox,q⟩
end
theorem uR{P:Program}{w:World}{K:gb}{mg mb:Str->Option Value}{k:Nat}{fa a:Addr}{fd:FuncData}{x:Str}{g:List Dat->Option RV}{tb:List TbZ}{s₁:Shared}{vs:List Value}{ns:List Int}
  (KX:K.In s₁.heap) (hns:s₁.heap.Ns mainGlobals mg) (hb:s₁.heap.Ns builtinsNs mb) (hbb:∀x:Str,x ≠ "__name__" -> mb x=bootBuiltins x) (hlim:s₁.heap.NoLimit) (hg:s₁.gens=#[])
  (hbm:∃bm ob,mg "__builtins__" = some (.ref bm)/\bm≠builtinsNs/\s₁.heap.get? bm=some ob/\ob.cls=.type "module" /\ ob.dict=some builtinsNs/\ob.data=.plain)
  (ha:s₁.heap.get? a=some { cls:=.type "list",data:=.seq vs.toArray }) (hi:IntsAre vs ns) (hl:ns.length<=sizeLine) (hr:aV k callerA)
  (hT:∀z∈tb,Nh s₁.heap z.c z.P/\s₁.heap.get? z.P=some (Ni #[])) (hnd:(tb.map (·.P)).Nodup) (hKt:NX K=true)
  (F:∀base:Heap,K.In base->base.Ns mainGlobals mg->(∀z∈tb,ir mg base z)->aO P w K mg base CX0 k fa fd [x] (spT tb g)) (hbind:∀(s:Shared) (u:Value),BindsTo s fd ⟨[u],[]⟩ [(x,u)])
  (hsp:∀H:Hp,SqL K H a (ns.map V.int)->spD g [.ref a] H (fun v _=>v=.bl true) fun _ _ _=>False) :
  codeAny (model P w) callerA (.call (.ref fa) ⟨[.ref a],[]⟩) (fun r s'=>r=.ok (.ret (.bool true))/\OldK s₁.heap s'.heap/\s'.os=s₁.os/\AllBare s'.gens) s₁:=by
 have rv:=mq hi;have J2:=hi.length;have noK:∀b o,K.lookup b=some o->s₁.heap.get? b=some (Ni #[])->False:=fun b o e h=>by have h2:=Lx.mp hKt (b,o) (PySem.W.mem_of_lookupK e);have:=KX b o e;rw[h]at this;cases this;exact absurd (show false=true from h2) K7
 have core:∀H:Hp,(∀z∈tb,H z.P=some (.tbl z.ln z.cl z.q))->SqL K H a (ns.map V.int)->HOk P w H s₁.heap->(∀b u,H b=some u->(b=a/\∃o xs,u=.frz o (.lst xs))\/∃z∈tb,b=z.P/\u=.tbl z.ln z.cl z.q)->(H a≠none->K.lookup a=none) ->
   codeAny (model P w) callerA (.call (.ref fa) ⟨[.ref a],[]⟩) (fun r s'=>r=.ok (.ret (.bool true))/\OldK s₁.heap s'.heap/\s'.os=s₁.os/\AllBare s'.gens) s₁:=by
  intro H hO hS hok hA hK;have jC:∀{b:Addr} {o:Obj},s₁.heap.get? b=some o->H b=none->(k_ s₁.heap H).get? b=some o:=fun e n=>vq e n;have noT:∀{b:Addr} {o:Obj},s₁.heap.get? b=some o->o.cls≠.none->(o.cls≠.type "list")->H b=none:=fun {b o} e h1 h2=>by
   cases q:H b with
   |none=>rfl
   |some u=>
    rcases hA b u q with⟨rfl,_⟩ | ⟨z,hz,rfl,_⟩
    ·rw[ha]at e;cases e;exact absurd rfl h2
    ·rw[(hT z hz).2]at e;cases e;exact absurd rfl h1
  have noA:∀{b:Addr} {o:Obj} {es:Array DictEntry} {ep:Nat},s₁.heap.get? b=some o->o.data=.dict es ep->H b=none:=fun {b o es ep} e d=>by
   cases q:H b with
   |none=>rfl
   |some u=>
    rcases hA b u q with⟨rfl,_⟩ | ⟨z,hz,rfl,_⟩
    ·rw[ha]at e;cases e;cases d
    ·rw[(hT z hz).2]at e;cases e;cases d
  have nsK:∀{b:Addr} {m:Str->Option Value},s₁.heap.Ns b m->(k_ s₁.heap H).Ns b m:=fun {b m} ⟨o,es,ep,e,d,r⟩=>⟨o,es,ep,jC e (noA e d),d,r⟩;have hKb:K.In (k_ s₁.heap H):=fun b o e=>jC (KX b o e) (by
   cases q:H b with
   |none=>rfl
   |some u=>
    rcases hA b u q with⟨rfl,_⟩ | ⟨z,hz,rfl,_⟩
    ·rw[hK (by rw[q];simp)]at e;cases e
    ·exact(noK _ _ e (hT z hz).2).elim)
  have hM:Mod K mg (k_ s₁.heap H):=⟨hKb,nsK hns,⟨mb,nsK hb,hbb⟩,let ⟨mc,h1,h2⟩:=hlim;⟨mc,nsK h1,h2⟩⟩
  have e0:o6 P w K mg (k_ s₁.heap H) callerA [] s₁ H:=⟨rfl,hM,fun b o e=>ze e,L3 (t_ _ _),trivial,fun b hb=>absurd (show b∈([]:List Addr) from hb) (by simp),hok,.of_eq hg⟩
  have hBT:∀z∈tb,ir mg (k_ s₁.heap H) z:=fun z hz=>by
   obtain⟨o,ws,file,tf,flags,tg,inF,text,tt,e1,r1,r⟩:=(hT z hz).1;obtain⟨bm,ob,b1,b2,b3,b4,b5⟩:=hbm;refine⟨⟨o,ws,file,tf,flags,tg,inF,text,tt,jC e1 (noT e1 (by rw[r1];decide) (by rw[r1];decide)),r1,r⟩,bm,ob,b1,b2,?_,?_,jC b3 (noT b3 (by rw[b4];decide) (by rw[b4];decide)),b4,b5⟩
   ·rintro rfl;obtain⟨o',es,ep,e,d,_⟩:=hns;rw[b3]at e;cases e;rw[b5.2]at d;cases d
   ·rintro rfl;rw[(hT z hz).2]at b3;cases b3;cases b4
  refine codeAny_mono ((F _ hKb (nsK hns) hBT).run callerA [] s₁ H ⟨[.ref a],[]⟩ [.ref a] [.ref a] _ _ hr e0 (hbind s₁ (.ref a)) (.cons rfl .nil) ⟨hO,hsp H hS⟩) fun r s' h=>?_;cases r with
  |error e=>exact(show False from h).elim
  |ok fl=>
   cases fl with
   |next=>exact K9 h
   |brk=>exact K9 h
   |cont=>exact K9 h
   |ret u=>
    obtain⟨v,H',os,bare,un,HZ,r',q⟩:=h;have q':v=.bl true:=q;subst q';obtain rfl:u=N3 true:=r';have all:∀b o,s₁.heap.get? b=some o->asItWas s₁.heap s'.heap b o/\∃o',s'.heap.get? b=some o':=fun b o e=>by
     cases q:H b with
     |none=>have:=un.keep b o e q (by intro z;exact absurd (show b∈([]:List Addr) from z) (by simp)) (by simp);exact⟨.inl this,_,this⟩
     |some u=>
      rcases hA b u q with⟨rfl,ob,xs,rfl⟩ | ⟨z,hz,rfl,rfl⟩
      ·have z2:=un.kZ _ ob _ q;obtain⟨e1,_⟩:=hok _ _ q;obtain⟨e2,_⟩:=HZ _ _ z2;rw[e]at e1;cases e1;exact⟨.inl e2,_,e2⟩
      ·obtain⟨ps,e2,_⟩:=HZ _ _ (un.iK _ _ _ _ q);have e3:=(hT z hz).2;rw[e]at e3;cases e3;exact⟨.inr (.inl ⟨((hT z hz).1.tab (hT z hz).2).isCodeTable,rfl,#[],ps,rfl,by rw[Array.empty_append];exact e2⟩),_,e2⟩
    exact⟨rfl,⟨fun b o e=>(all b o e).1,fun b o e=>(all b o e).2⟩,os,bare⟩
 have aP:∀z∈tb,a≠z.P:=fun z hz e=>by have:=(hT z hz).2;rw[<- e,ha]at this;cases this
 let tf:Hp:=fun b=>(tb.find? fun z=>z.P == b).map fun z=>.tbl z.ln z.cl z.q
 have tfI:∀b u,tf b=some u->∃z∈tb,b=z.P/\u=.tbl z.ln z.cl z.q:=fun b u e=>by obtain⟨z,hz,e⟩:=Option.map_eq_some_iff.mp e;exact⟨z,List.mem_of_find?_eq_some hz,by have:=List.find?_some hz;simpa using(beq_iff_eq.mp this).symm,e.symm⟩
 have tfO:∀z∈tb,tf z.P=some (.tbl z.ln z.cl z.q):=fun z hz=>by
  cases q:tb.find? (fun y=>y.P == z.P) with
  |none=>exact absurd (List.find?_eq_none.mp q z hz) (by simp)
  |some y=>
   have e1:y.P=z.P:=by simpa using List.find?_some q
   have:=n6 hnd (List.mem_of_find?_eq_some q) hz e1;subst this;show (tb.find? (fun y'=>y'.P == y.P)).map _=_;rw[q];rfl
 have tfA:tf a=none:=by
  cases q:tf a with
  |none=>rfl
  |some u=>obtain⟨z,hz,e,_⟩:=tfI a u q;exact absurd e (aP z hz)
 have tok:∀(H:Hp) z,z∈tb->bq P w H s₁.heap z.P (.tbl z.ln z.cl z.q):=fun H z hz=>⟨#[],(hT z hz).2,.inl rfl⟩;cases hk:K.lookup a with
 |some o=>have e:=KX a o hk;rw[ha]at e;cases e;refine core tf tfO (.inr ⟨_,vs.toArray,_,hk,rfl,rfl,rfl,by rw[Ky,J2];exact hl,by simpa using rv⟩) (fun b u z=>?_) (fun b u z=>.inr (tfI b u z)) fun z=>absurd tfA z;obtain⟨y,hy,rfl,rfl⟩:=tfI b u z;exact tok _ y hy
 |none=>
  refine core (upd tf a (.frz { cls:=.type "list",data:=.seq vs.toArray } (.lst (ns.map V.int)))) (fun z hz=>by rw[af (Lg (aP z hz))];exact tfO z hz) (.inl (.inr ⟨{ cls:=.type "list",data:=.seq vs.toArray },aq⟩)) (fun b u z=>?_) (fun b u z=>?_) fun _=>hk
  ·by_cases hb:b=a
   ·subst hb;rw[aq]at z;cases z;exact⟨ha,by rw[gp];exact hl,vs,_,rv,ha⟩
   ·rw[af hb]at z;obtain⟨y,hy,rfl,rfl⟩:=tfI b u z;exact tok _ y hy
  ·by_cases hb:b=a
   ·subst hb;rw[aq]at z;cases z;exact .inl ⟨rfl,_,_,rfl⟩
   ·rw[af hb]at z;exact .inr (tfI b u z)
theorem xC{l:NO}{n k:Nat}{q:Program}{loose:List Str}{XP:(Str->Option Value)->Heap->Prop}{YP:World->Heap->Prop}{d:DefRec}{K:Params->gb}{g:List Dat->Option RV}{tb:List TbZ}{x:Str}
  (hn:l.most=some n) (hn2:n<=sizeLine) (hdf:d.params.defaults=[]) (hr:aV k callerA)
  (hY:∀(w:World) (h:Heap),YP w h->(K w.params).In h) (hT:∀(w:World) (h:Heap),YP w h->∀z∈tb,Nh h z.c z.P/\h.get? z.P=some (Ni #[])) (hnd:(tb.map (·.P)).Nodup) (hKt:∀w:World,NX (K w.params)=true)
  (F:∀ (w:World) (mg:Str→Option Value) (fa:Addr) (h:Heap),(K w.params).In h→h.Ns mainGlobals mg→mg d.name=some (.ref fa) →
   ∃fd:FuncData,(∀(s:Shared) (u:Value),BindsTo s fd ⟨[u],[]⟩ [(x,u)]) /\
    ∀base:Heap,(K w.params).In base->base.Ns mainGlobals mg->(∀z∈tb,ir mg base z)->aO l.prog w (K w.params) mg base CX0 k fa fd [x] (spT tb g))
  (hsp:∀(w:World) (H:Hp) (a:Addr) (ns:List Int),ns.length<=n->SqL (K w.params) H a (ns.map V.int)->spD g [.ref a] H (fun v _=>v=.bl true) fun _ _ _=>False) :
  PySem.W.WalkO q loose XP YP l.row.toRowW d [] (fun f vs=>PySem.call f vs):=by
 refine Att.o_ hn hdf fun w s₀ s₁ mg mb fa o pm cd doc a vs ns G Y ho hd FG hmg hobj hints xR hg=>?_;have KX:=hY w _ Y;obtain⟨fd,hb,hF⟩:=F w mg fa _ KX G.T.g hmg;exact uR KX G.T.g G.T.b G.T.builtins G.T.nolimit hg G.T.bmain hobj hints (Nat.le_trans xR hn2) hr (hT w _ Y) hnd (hKt w) hF hb fun H hS=>hsp w H a ns xR hS
theorem okQ{P:Program}{w:World}{K:gb}{mg:Str->Option Value}{base:Heap}{x qual:Str}{st:Stmt}{f:Addr}{fd:FuncData}{N ps:List Str}{k n m:Nat}{body:FS}(F:Fun K x qual st f fd)(S:ao N ps (aa st))
  (hb:∀(cdv:Value) (A:Around) (outer:List Env) (s:Shared) (H:Hp) (E:XK),aV k (A.deeper (envOfC qual (aa st) s.heap.objs.size f cdv))->DSs (gS CX0 P w K mg base N qual (aa st) f cdv A outer s H E).nox (aH st) body)
  (hn:ps.length=n:=by rfl) (hm:N.length=n+m:=by rfl):aO P w K mg base CX0 (k+1) f fd ps (spD (Dm.fn n m body)):=
 F.ok S (fun vs H Q E h=>(nH h).trans hn.symm) fun cdv A outer s H vs Q E hr h=>⟨_,hb cdv A outer s H E hr,D8 hm h⟩
end Br
namespace L2
open PySem PySem.Spec PyProof.Rows
section
variable{P:Program}{w:World}{K:gb}{mg:Str->Option Value}{base:Heap}{N:List Str}{qual:Str}{scope:Scope}{f:Addr}{cd:Value}{A:Around}{outer:List Env}{s₀:Shared}{H₀:Hp}{E:XK}{C:Addr}
 {jn:List (Addr×Obj)} {σ:St} {H:Hp} {s:Shared}
end
end L2
namespace Dm
noncomputable def mE(j:Nat)(f:FE)(bd:FB)(body:FC):FC:=fun ρ p=>match f (see j ρ p) with
 |some (.val (.int m),_)=>if m<=BIG/\-BIG<=m then f_ bd body (ups 0 m.toNat) ρ p else none
 |_=>none
end Dm
namespace Br
open PySem PySem.Spec PyProof.Rows L2
section
variable{D:Ends}{σ:L2.St}{H:Hp}{j:Nat}
theorem AA{f:FE}{bd:Dm.FB}{g:TG}{body:Dm.FC}{is:List Nat}(hb:BD is g bd)(hj:j∉is)(h:tDC j (Dm.mE j f bd body) D σ H):Du (vG (tDA [f])) g (tDC j body) D σ H:=by
 obtain⟨σs,ρs,H0s,Hs,H00,ρ,p,o,n,e,k⟩:=h;unfold Dm.mE at e;split at e
 case h_2=>cases e
 rename_i m ρ1 e1;split at e
 case isFalse=>cases e
 rename_i hbd;refine⟨_,_,[.val (.int m)],ρ1,n.see,by unfold Dm.eAs;rw[e1];rfl,fun vs H0' H' t r=>?_⟩;cases r with
 |cons r rr=>
  cases rr;cases Rep.isInt r;have hb1:=hbd.1;have hb2:=hbd.2;unfold Dm.BIG at hb1 hb2;refine⟨m,rfl,by lia,by lia,?_⟩;have n:=n.grow (n.seen t)
  generalize hys:Dm.ups 0 m.toNat=ys at e
  have jw:JW (Itr 0 m.toNat) H00 ys:=by rw[<- hys];exact jS
  refine ⟨fun i m σ H=>∃ H0 ρ p,MS j σs ρs H0s Hs σ ρ H0 H p∧ah H00 H0∧m=ys.length-i∧i≤ys.length∧Dm.f_ bd body (ys.drop i) ρ p=some o,
   ⟨ys.length,H00,ρ,p,n,ah.refl _,by simp,Lc _,by simpa using e⟩,?_⟩
  rintro i m σ H ⟨H0,ρ,p,n,s00,rfl,hi,e⟩;obtain⟨js,jg⟩:=jw H0 H s00 n.st.same;by_cases Cs:i<ys.length
  ·have hd:ys[i]?=some ys[i]:=by simp[Cs]
   obtain⟨g1,g2⟩:=jg i ys[i] hd;rw[Lp Cs]at e;unfold Dm.f_ at e;refine .inr ⟨g1,fun σ' H'=>∃H0 ρ p,MS j σs ρs H0s Hs σ' ρ H0 H' p/\ah H00 H0/\Dm.f_ bd body (ys.drop (i+1)) ρ p=some o,?_,fun x H' y=>?_⟩
   ·rintro σ' H' ⟨H0',ρ2,r2,h1,h2,h3⟩;exact⟨ys.length-(i+1),by lia,H0',ρ2,r2,h1,h2,rfl,Cs,h3⟩
   ·obtain⟨H0',gr,rx⟩:=g2 x H' y;split at e
    ·cases e
    ·rename_i ρ2 e2;have n2:=n.grow gr;refine hb H0' H' σ ρ ρ2 x ys[i] _ n2.st rx e2 fun σ2 st2 o2 k2 _ f2=>?_;have n3:=n2.bind st2 o2 (k2 j hj) f2;have s3:ah H00 H0':=s00.trans gr.s0;split at e
     ·rename_i ρ3 p3 e3;exact⟨σs,ρs,H0s,Hs,H0',ρ2,p,_,n3,e3,fun σ4 H4 Hd n4 s4=>⟨H4,ρ3,p3,n4,s3.trans s4,e⟩⟩
     ·rename_i hn;cases o with
      |nx ρ1 p1=>exact(hn _ _ e).elim
      |rt d ρ1=>exact⟨σs,ρs,H0s,Hs,H0',ρ2,p,_,n3,e,k⟩
  ·have e':i=ys.length:=by lia
   subst e';rw[MZ]at e;cases e;exact .inl ⟨js _ (Nat.le_refl _),k σ H0 H n s00⟩
end
section
variable{X:Cx}{a:Expr}{fa:FE}{pos p pos':Pos}{j:Nat}
theorem Fj{tg:Expr}{is:List Nat}{bd:Dm.FB}{body:List Stmt}{fs:Dm.FC}(hp:PassesOwn (model X.prog X.w) X.A X.env X.xe)(hc:X.calm=true)(hg':Gl X "range")(hm:X.mg "range" = none)(ha:DA X [a] [fa])(hg:TG' X tg is bd)(hb:DCs X j body fs)(hj:decide (j∈is)=false:=by rfl)
  (hs:starEach [a] X.env=[(false,eval a X.env)]:=by rfl) (hs2:∀x,foldedSetIterable (.Call (.Name "range" p) [a] [] pos) X.env x=pure x:=by intro _;rfl):DC X j (.For tg (.Call (.Name "range" p) [a] [] pos) body [] pos') (Dm.mE j fa bd fs):=by
 obtain⟨g,h1,h2⟩:=hg.ex;exact PS.weak (vH hp hc (lJ hg' hm ha hs) h1 hb hs2) fun _ _ _=>AA h2 (of_decide_eq_false hj)
end
end Br
namespace Ts
open PySem PyProof.Rows
variable{A:Around}{E:Value->Shared->Prop}{s:Shared}{prog:Program}{w:World}
end Ts
namespace Br
open PySem PySem.Spec PyProof.Rows L2
section
variable{N P:Addr->Prop}{H0 H:Hp}
mutual
theorem bQ.rA(ht:∀a vs,H a=some (.tup vs)->P a):∀{v:V} {p:Dm.Dp} {fp:List Addr},bQ N H0 H v p fp->(∀a∈fp,P a)->bQ (fun a=>N a/\P a) H0 H v p fp
 |_,_,_,.s r,_=>.s r
 |_,_,_,.l n h r,k=>.l ⟨n,k _ Kz⟩ h (aG.rA ht r fun b hb=>k b (Kw _ hb))
 |_,_,_,.t n h r,k=>.t ⟨n,ht _ _ h⟩ h (aG.rA ht r k)
theorem aG.rA(ht:∀a vs,H a=some (.tup vs)->P a):∀{vs:List V} {ps:List Dm.Dp} {fp:List Addr},aG N H0 H vs ps fp->(∀a∈fp,P a)->aG (fun a=>N a/\P a) H0 H vs ps fp
 |_,_,_,.nil,_=>.nil
 |_,_,_,.cons h r,k=>.cons (bQ.rA ht h fun a ha=>k a (Lv _ ha)) (aG.rA ht r fun a ha=>k a (KQ _ ha))
end
end
section
variable{mg:Str->Option Value}{x:Str}{hp:Heap}{a:Addr}{X:Cx}
structure H3(mg:Str->Option Value)(K:gb)(x:Str)(st:Stmt)(a:Addr)(fd:FuncData)(ps:List Str):Prop where
 hs:Au K x st a fd
 m:mg x=some (.ref a)
 b:Binds K fd ps []
theorem H3.F{K:gb}{st:Stmt}{fd:FuncData}{ps:List Str}(h:H3 mg K x st a fd ps):Fun K x x st a fd:=h.hs.F
theorem aY{K:gb}{st:Stmt}{ps:List Str}{oc:Value}{od an:Option Addr}{osl:Array (Option Value)}{kV doc pm cdv ct:Value}(X:K.In hp)(G:hp.Ns mainGlobals mg)(e:MK K mainGlobals x=some (some (.ref a)))
  (l:K.lookup a=some ⟨oc,od,.func (K1 x x (aR st) (aH st) (aa st) .none kV doc pm an cdv ct),osl⟩) (c:Mj K cdv x=true) (k:Le K (.ref a)=true)
  (b:Fun K x x st a (K1 x x (aR st) (aH st) (aa st) .none kV doc pm an cdv ct)->Binds K (K1 x x (aR st) (aH st) (aa st) .none kV doc pm an cdv ct) ps []) :
  H3 mg K x st a (K1 x x (aR st) (aH st) (aa st) .none kV doc pm an cdv ct) ps:=⟨Fd e l c k,mgo X G e,b (vW l c k)⟩
theorem mgt{K:gb}{c:Int}{t:Tok}(X:K.In hp)(G:hp.Ns mainGlobals mg)(e:MK K mainGlobals x=some (some (.int c t))):∃t,mg x=some (.int c t):=⟨t,mgo X G e⟩
theorem a_1{e:Expr}{f:FE}(h:DE X e f)(hs:starEach [e] X.env=(false,eval e X.env)::starEach [] X.env:=by rfl):DA X [e] [f]:=aC h eH hs
theorem a_2{e e':Expr}{f f':FE}(h:DE X e f)(h':DE X e' f')(hs':starEach [e'] X.env=(false,eval e' X.env)::starEach [] X.env:=by rfl)(hs:starEach [e,e'] X.env=(false,eval e X.env)::starEach [e'] X.env:=by rfl):DA X [e,e'] [f,f']:=aC h (a_1 h' hs') hs
end
end Br
namespace Dm
noncomputable def je(f:List Dat->Option Dp)(ds:List Dat):Option RV:=match f ds with
 |some (.l ps)=>some (.new (.lst (Dp.bR ps)))
 |some p=>some (.val p.dat)
 |none=>none
noncomputable def owK:Env->Env->Bool
 |.ow _::r,.ow _::r1=>owK r r1
 |.ow _::r,.sh (.lst _)::r1=>owK r r1
 |.ow _::_,_=>false
 |_::r,_::r1=>owK r r1
 |_,_=>true
noncomputable def gE(j:Nat)(f:FP)(g:FQ):FSP:=fun ρ=>if j=0 then none else match f ρ with
 |none=>none
 |some (p,ρ1)=>if owK ρ ρ1 then g (ρ1.set j .un) p else none
noncomputable def ltP(key:Dat->Option (List Int))(p q:Dp):Bool:=ltK key p.dat q.dat
noncomputable def gF(b:Nat)(fk:FE):FQ:=fun _ p=>match p with
 | .l ps=>if ps.length≤b then (match keysOf (fX fk) (Dp.bR ps) with
  |some kss=>if kss.Nodup then some (.l (aZ (ltP (fX fk)) ps)) else none
  |none=>none) else none
 |_=>none
noncomputable def rB(j a b:Nat)(i:FE)(t:FT)(r e:FE):FC:=fun ρ p=>if a=0\/a=j\/b=0\/b=j\/a=b then none else match p with
 | .l rows=>(match i (see j ρ p) with
  | some (.val (.int k),_)=>(match ixN rows.length k with
   |none=>none
   | some m=>(match rows[m]? with
    | some (.t [.s d,.l items])=>(match t (see j ((ρ.set a (.sh d)).set b (.sh (.lst (Dp.bR items)))) p) with
     |none=>none
     | some (true,_)=>(match r (see j ((ρ.set a (.sh d)).set b .un) p) with
      |some (.val w,_)=>if cQ w then none else some (.rt w ((ρ.set a (.sh d)).set b .un))
      |_=>none)
     | some (false,_)=>(match e (see j ((ρ.set a (.sh d)).set b .un) p) with
      |some (.val w,_)=>if cQ w then none else if items.length<SZ then some (.nx ((ρ.set a (.sh d)).set b .un) (.l (rows.set m (.t [.s d,.l (items++[.s w])])))) else none
      |_=>none))
    |_=>none))
  |_=>none)
 |_=>none
noncomputable def p6(gs:FS):FM:=fun ρ p=>match p with
 |.l _=>gs ρ
 |_=>none
end Dm
namespace Br
open PySem PySem.Spec PyProof.Rows L2
def H_(tb:List TbZ)(f:List Dat->Option (RV×Dat)):Sp:=fun vs H Q E=>Tbs tb H/\spM f vs H Q E
def AB(tb:List TbZ)(f:List Dat->Option Dm.Dp):Sp:=fun vs H Q E=>Tbs tb H/\spP f vs H Q E
theorem tu{f:List Dat->Option Dm.Dp}{vs:List V}{H:Hp}{Q:VK}{E:XK}(h:spD (Dm.je f) vs H Q E):spP f vs H Q E:=by
 obtain⟨H0,ds,z,s,rs,e,k⟩:=h;unfold Dm.je at e;have gr:∀{H0' H':Hp} {N:Addr->Prop},aJ H0 H H0' H'->(∀a,N a->H a=none)->aJ H0 H (bor H0' H' N) H':=fun {H0' H' N} g n=>by
  refine⟨g.s0.trans cZ,g.s1,fun a o q=>?_,nY g.s3⟩;unfold bor at q;split at q
  ·rename_i o' q';cases q;exact g.s2 _ _ q'
  ·split at q
   ·rename_i y;exact .inl (n a y)
   ·cases q
 split at e
 ·rename_i ps ep;cases e;refine⟨H0,ds,_,s,rs,ep,fun v H0' H' fp g r nd n=>?_⟩;cases r with
  |l na ha rr=>rename_i a us fq;obtain⟨nd1,nd2⟩:=LI.mp nd;have r2:=rr.rA (P:=fun b=>b≠a) (fun b us' h z=>by rw[z,ha]at h;cases h) fun b hb z=>nd1 (z▸hb);refine k _ _ H' (gr (N:=fun b=>H b=none/\b≠a) g fun b y=>y.1) ⟨a,rfl,na,?_,us,ha,r2.rep cZ fun b o y q=>fy g.s3 y q⟩;unfold bor;rw[n a Kz];dsimp only;rw[if_neg fun y=>y.2 rfl]
 ·rename_i p _ ep;cases e;exact⟨H0,ds,_,s,rs,ep,fun v H0' H' fp g r nd n=>k _ _ H' (gr g fun _ y=>y) (r.rep cZ fun b o y q=>fy g.s3 y q)⟩
 ·cases e
section
variable{P:Program}{w:World}{K:gb}{mg:Str->Option Value}{base:Heap}{x qual:Str}{st:Stmt}{f:Addr}{fd:FuncData}{N ps:List Str}{k:Nat}{g:List Dat->Option Dm.Dp}{tb:List TbZ}
theorem AD(F:aO P w K mg base CX0 k f fd ps (spP g)):aO P w K mg base CX0 k f fd ps (spD (Dm.je g)):=F.imp fun _ _ _ _=>tu
theorem xD(F:aO P w K mg base CX0 k f fd ps (AB tb g)):aO P w K mg base CX0 k f fd ps (spT tb (Dm.je g)):=F.imp fun _ _ _ _ h=>⟨h.1,tu h.2⟩
theorem Ae.okG{sp:Sp}(F:Ae K x qual st f fd)(S:ao N ps (aa st))(len:∀vs H Q E,sp vs H Q E->vs.length=ps.length)
  (hbody:∀ (cdv:Value) (A:Around) (outer:List Env) (s:Shared) (H:Hp) (vs:List V) (Q:VK) (E:XK),cdv=fd.code→aV k (A.deeper (envOfC qual (aa st) s.heap.objs.size f cdv))→Tbs tb H→sp vs H Q E →
   ∃t,PSs (gS CX0 P w K mg base N qual (aa st) f cdv A outer s H E).nox (aH st) t/\t { nx:=fun _ H'=>Q .non H',rt:=Q } (start N vs) H):aO P w K mg base CX0 (k+1) f fd ps (fun vs H Q E=>Tbs tb H/\sp vs H Q E):=by
 obtain⟨oc,od,dV,kV,doc,pm,an,cdv,ct,osl,rfl,lk,FG⟩:=F.ex;refine r9 lk FG S (fun vs H Q E h=>len vs H Q E h.2) fun A outer s H vs Q E hr hsp=>?_;obtain⟨t,h,q⟩:=hbody cdv A outer s H vs Q E rfl hr hsp.1 hsp.2;exact⟨t,h.nox,q⟩
theorem AE{sp:Sp}(F:Fun K x qual st f fd)(S:ao N ps (aa st))(len:∀vs H Q E,sp vs H Q E->vs.length=ps.length)
  (hbody:∀ (cdv:Value) (A:Around) (outer:List Env) (s:Shared) (H:Hp) (vs:List V) (Q:VK) (E:XK),cdv=fd.code→aV k (A.deeper (envOfC qual (aa st) s.heap.objs.size f cdv))→Tbs tb H→sp vs H Q E →
   ∃t,PSs (gS CX0 P w K mg base N qual (aa st) f cdv A outer s H E).nox (aH st) t/\t { nx:=fun _ H'=>Q .non H',rt:=Q } (start N vs) H):aO P w K mg base CX0 (k+1) f fd ps (fun vs H Q E=>Tbs tb H/\sp vs H Q E):=by
 obtain⟨oc,od,kV,doc,pm,an,cdv,ct,osl,rfl,lk,FG⟩:=F.ex;refine r9 lk FG S (fun vs H Q E h=>len vs H Q E h.2) fun A outer s H vs Q E hr hsp=>?_;obtain⟨t,h,q⟩:=hbody cdv A outer s H vs Q E rfl hr hsp.1 hsp.2;exact⟨t,h.nox,q⟩
end
section
variable{X:Cx}{e:Expr}{t:TA}{g:List Dat->Option Dm.Dp}{tb:List TbZ}{fs:List FE}{E:XK}
theorem J3(h:PE X e (fZ (AB tb g) [] E (Fi tb (tDA fs)))):PE X e (fZ (spP g) [] E (tDA fs)):=
 PE.weak h fun σ H Q ⟨H0,ρ,xs,ρ',st,e,k⟩=>⟨H0,ρ,xs,ρ',st,e,fun vs H0' H' es rs ht=>⟨ht,k vs H0' H' es rs⟩⟩
end
section
variable{X:Cx}{e e3:Expr}{es:List Expr}{fs:List FE}{f:FE}{xN:List Stmt}{gm:Dm.FM}{p pos kpos:Pos}{tb:List TbZ}
section
variable{fd:FuncData}{ps:List Str}{F:Addr}{k:Nat}
theorem AF(j:Nat){g:List Dat->Option Dm.Dp}{x y:Str}{pos' cpos:Pos}(ht:Tbs tb X.H₀)(hN:X.N.Nodup)(G:aO X.prog X.w X.K X.mg X.base CX0 k F fd ps (AB tb g))(hr:aV k X.A)(hg:Gl X x)(hm:X.mg x=some (.ref F))(hk:Le X.K (.ref F)=true)(hb:Binds X.K fd ps [])
  (ha:DA X (e::es) fs) (hre:DMs X j xN gm) (hi:X.N[j]?=some y:=by rfl) (hx:Loc X.env.scope y:=by trivial) (hs:swapsWith (.Call (.Name x p) (e::es) [] cpos) (some (.Name y pos')) pos.line X.env=pure false:=by rfl)
  (hf:X.fn y=true\/X.env.scope.names.lookup y=some .local:=by trivial) (FF:(x == ("__debug__" : Str))=false:=by decide) (he:starEach (e::es) X.env=(false,eval e X.env)::starEach es X.env:=by rfl) (A3:(backTo cpos (starEach es X.env)).any (·.1)=false:=by rfl) :
  DSs X (.Assign [.Name y pos'] (.Call (.Name x p) (e::es) [] cpos) pos::xN) (Dm.mz j g fs gm):=by
 have h:=bU (vD hN hi hx (J3 (dh G hr hg hm hk hb .nil (gT (X:=X)) (PA.inv ha ht) FF he A3)) hs hf) hre;intro jn s σ H D I q;exact h jn s σ H D I (E_ (by rw[I.len];exact(pe.mp hi).1) q)
theorem PK.inv{kws:List Keyword}{t:TA}(h:PK X kws t)(ht:Tbs tb X.H₀):PK X kws (Fi tb t):=fun pos jn s σ H Q I q=>thn (h pos jn s σ H _ I q) fun us s1 ⟨vs,H1,I1,r,q1⟩=>⟨vs,H1,I1,r,q1 fun z hz=>I1.base.iK _ _ _ _ (ht z hz)⟩
theorem uS{g:List Dat->Option RV}{x nm:Str}(n:Nat)(ht:Tbs tb X.H₀)(G:aO X.prog X.w X.K X.mg X.base CX0 k F fd ps (spT tb g))(hr:aV k X.A)(hg:Gl X x)(hm:X.mg x=some (.ref F))(hk:Le X.K (.ref F)=true)(hb:iN X.K fd ps [nm] (kw1 n) (kw1 n))
  (ha:DA X (e::es) fs) (h3:DE X e3 f) (hn:fs.length=n:=by rfl) (he:starEach (e::es) X.env=(false,eval e X.env)::starEach es X.env:=by rfl)
  (hall:(backToKw pos (keywordEach [⟨some nm,e3,kpos⟩] X.env)).all (·.1.isSome)=true:=by rfl) (hks:(backToKw pos (keywordEach [⟨some nm,e3,kpos⟩] X.env)).filterMap (·.1)=[nm]:=by rfl)
  (FF:(x == ("__debug__" : Str))=false:=by decide) (A3:((backTo pos (starEach (e::es) X.env)).any (·.1)||(backToKw pos (keywordEach [⟨some nm,e3,kpos⟩] X.env)).any (·.1.isNone))=false:=by rfl) :
  DE X (.Call (.Name x p) (e::es) [⟨some nm,e3,kpos⟩] pos) (Dm.eF g (fs++[f])):=by
 subst hn;refine PE.weak (vO G hr hg hm hk hb (gT (X:=X)) ha (PK.inv (zo h3 DO) ht) hall hks FF he A3) fun σ H Q h=>?_;obtain⟨H0,ρ,ys,ρ1,st,e1,k1⟩:=xu (E:=E0) (nE h);refine⟨H0,ρ,ys,ρ1,st,e1,fun vs H0' H' t r=>?_⟩;obtain⟨H2,ρ2,y,ρ3,st2,e2,k2⟩:=k1 vs H0' H' t r;exact⟨H2,ρ2,y,ρ3,st2,e2,fun v qN H'' t2 r2 ht=>⟨ht,k2 v qN H'' t2 r2⟩⟩
end
end
theorem xE{X:Cx}{es:List Expr}{p pos px:Pos}{k:Nat}{F:Addr}{fd:FuncData}{ps:List Str}{g:List Dat->Option (RV×Dat)}{x y:Str}{j:Nat}{fs:List FE}{tb:List TbZ}(ht:Tbs tb X.H₀)(G:aO X.prog X.w X.K X.mg X.base CX0 k F fd ps (H_ tb g))(hr:aV k X.A)(hg:Gl X x)(hm:X.mg x=some (.ref F))(hk:Le X.K (.ref F)=true)(hb:Binds X.K fd ps [])
  (ha:DA X (.Name y px::es) (Dm.eV j::fs)) (FF:(x == ("__debug__" : Str))=false:=by decide) (he:starEach (.Name y px::es) X.env=(false,eval (.Name y px) X.env)::starEach es X.env:=by rfl) (A3:(backTo pos (starEach es X.env)).any (·.1)=false:=by rfl) :
  DE X (.Call (.Name x p) (.Name y px::es) [] pos) (Dm.eFm g j fs):=PE.weak (dh G hr hg hm hk hb .nil (gT (X:=X)) (PA.inv ha ht) FF he A3) fun σ H Q h=>by
 obtain⟨H0,ρ,xs,ρ',st,e,k⟩:=sQ (E:=E0) h;exact⟨H0,ρ,xs,ρ',st,e,fun vs H0' H' es rs ht=>⟨ht,k vs H0' H' es rs⟩⟩
theorem AG{K:gb}{fd:FuncData}{p1 p2:Str}(h:∀(s:Shared) (a b:Value),K.In s.heap->BindsTo s fd ⟨[a],[(p2,b)]⟩ [(p1,a),(p2,b)]):iN K fd [p1,p2] [p2] (kw1 1) (kw1 1):=by
 refine⟨fun s us ws hIn hl=>?_,fun r q=>E3 1 r q⟩;unfold kw1 at hl ⊢;split at hl
 ·rename_i hh;rw[if_pos hh];refine xg (C:=fun us=>BindsTo s fd ⟨us,[p2].zip ws⟩ ([p1,p2].zip (us++ws))) hh.1 fun a=>?_;exact xg (C:=fun ws=>BindsTo s fd ⟨[a],[p2].zip ws⟩ ([p1,p2].zip ([a]++ws))) hh.2 fun b=>h s a b hIn
 ·cases hl
theorem xF:∀{ρ ρ1:Dm.Env},Dm.owK ρ ρ1=true->ρ.length=ρ1.length->∀(i:Nat) (d:Dat),ρ[i]?=some (Dm.Cell.ow d)->(∃d',ρ1[i]?=some (Dm.Cell.ow d'))\/∃ds,ρ1[i]?=some (Dm.Cell.sh (.lst ds))
 |[],_,_,_,i,d,h=>by simp at h
 |_::_,[],e,l,i,d,h=>by simp at l
 |c::r,c1::r1,e,l,i,d,h=>by
  have rc:Dm.owK r r1=true:=by
   revert e;cases c with
   |ow d0=>
    cases c1 with
    |ow d1=>exact id
    |sh d1=>cases d1<;>first | exact id | (intro e;simp[Dm.owK]at e)
    |un=>intro e;simp[Dm.owK]at e
   |sh d0=>intro e;simpa [Dm.owK] using e
   |un=>intro e;simpa [Dm.owK] using e
  cases i with
  |succ i=>simpa using xF rc (by simpa using l) i d (by simpa using h)
  |zero=>
   cases h;cases c1 with
   |ow d1=>exact .inl ⟨d1,rfl⟩
   |sh d1=>cases d1<;>first | exact .inr ⟨_,rfl⟩ | simp[Dm.owK]at e
   |un=>simp[Dm.owK]at e
section
variable{D:Ends}{σ:L2.St}{H:Hp}{j:Nat}
theorem xG{f:Dm.FP}{g:Dm.FQ}(hj:j<σ.length)(h:tDP (Dm.gE j f g) D σ H):jH (ng (tDp f) (fY j)) (tDQ j g) D σ H:=by
 obtain⟨H0,ρ,q,st,e,k⟩:=h;unfold Dm.gE at e;split at e
 ·cases e
 rename_i hj0;split at e
 ·cases e
 rename_i p ρ1 e1;split at e
 case isFalse=>cases e
 rename_i hw;refine⟨H0,ρ,p,ρ1,st,e1,fun v H1 Hb fp t1 r1 g1=>?_⟩;have key:∀a,ai σ ρ a->ai σ ρ1 a\/∃o,H1 a=some o/\∀us,o≠.tup us:=fun a ⟨i,d,q1,q2⟩=>by
  rcases xF hw (st.len.symm.trans t1.st.len) i d q1 with⟨d',q⟩ | ⟨ds,q⟩
  ·exact .inl ⟨i,d',q,q2⟩
  ·obtain⟨u,w1,w2⟩:=t1.st.sh i _ q;rw[q2]at w1;cases w1;cases w2 with
   |lst h _=>
    rcases h with h | ⟨o,h⟩
    ·exact .inr ⟨_,h,fun us z=>by cases z⟩
    ·exact .inr ⟨_,h,fun us z=>by cases z⟩
 have r2:=r1.rA (P:=fun a=>¬ ai σ ρ a) (fun a vs h z=>(key a z).elim (fun y=>t1.st.xh h y) fun ⟨o,y,n⟩=>by
  have:=t1.st.same _ _ y;rw[h]at this;cases this;exact n _ rfl) fun a ha z=>(key a z).elim (g1.2 a ha).2 fun⟨o,y,_⟩=>by have:=(g1.2 a ha).1;rw[y]at this;cases this
 obtain⟨s1,s2⟩:=t1.st.qW j (some v);exact⟨σ,ρ,H0,H,H1,_,p,q,⟨s1,t1.stp,fun a z=>.inl (t1.own a (s2 a z)),gc hj0,v,fp,KW hj,r2.mono (ah.refl _) (fun a n=>n.1.elim id fun z=>(n.2 z).elim) (fun _ _ _ h=>h) fun _ _=>rfl,g1.1,fun a ha=>⟨(g1.2 a ha).1,fun z=>(g1.2 a ha).2 (s2 a z)⟩⟩,e,k⟩
theorem AH{K:gb}{gs:FS}(h:tDM j (Dm.p6 gs) D σ H):jH (oV (GI K "list" vU (qC j))) (tDS gs) D σ H:=by
 obtain⟨σs,ρs,H0s,Hs,H0,ρ,p,o,n,e,k⟩:=h;unfold Dm.p6 at e;split at e
 case h_2=>cases e
 rename_i ps;obtain⟨v,fp,h1,h2,h3⟩:=n.ex;cases h2 with
 |l nL hL rs=>rename_i L vs fq;obtain⟨z1,z2⟩:=h3.2 L Kz;refine⟨_,h1,.inl ⟨rfl,vs,.inl (.inl hL)⟩,L,vs,rfl,rfl,hL,?_⟩;have t:=n.wr nL z1 z2 (.lst []);exact⟨H0,ρ,o,t.st,e,k.pre t⟩
end
section
variable{X:Cx}{e:Expr}{gs:FS}{xN:List Stmt}{pos:Pos}{j:Nat}
theorem AI(j:Nat)(nm own:List Str){y:Str}{py Ft:Pos}{tg iter En:Expr}{scope:Scope}{is:List Nat}{bd:Dm.FB}{fi:Dm.FI}{fp:Dm.FP}{gq:Dm.FQ}(hN:X.N.Nodup)(hg:TGc X nm scope own tg is bd)(hi:DI X tg iter fi)(he:∀cl C s H fp',DP (aW X nm scope own cl C s H fp') En fp)(hre:DHs X j xN gq)
  (hc:X.calm=true:=by rfl) (hk:scope.kind=.function:=by rfl) (hS:jZ X.env.scope X.N nm scope=true:=by rfl) (hl:(is.all fun i=>decide (X.N.length<=i))=true:=by rfl) (hj:X.N[j]?=some y:=by rfl) (hy:Loc X.env.scope y:=by trivial)
  (hsw:swapsWith (.ListComp En [⟨tg,iter,[],0⟩] scope pos) (some (.Name y py)) Ft.line X.env=pure true:=by rfl) (hs:∀x,foldedSetIterable iter X.env x=pure x:=by intro _;rfl)
  (hf:X.fn y=true\/X.env.scope.names.lookup y=some .local:=by trivial):DQs X (.Assign [.Name y py] (.ListComp En [⟨tg,iter,[],0⟩] scope pos) Ft::xN) (Dm.gE j (Dm.jc fi own.length bd fp) gq):=by
 obtain⟨g,h1,h2⟩:=hg.ex;have h:PS X (.Assign [.Name y py] (.ListComp En [⟨tg,iter,[],0⟩] scope pos) Ft) (ng (tDp (Dm.jc fi own.length bd fp)) (fY j)):=fun jn s σ H D I q=>eY hN hj hy hc (cO.of hS hk) hi h1 (fun cl C s H fp=>sD) he hsw hs hf jn s σ H D I (An h2 (fun i hi=>by rw[I.len];exact pI hl i hi) q);have h2:=bU h hre;intro jn s σ H D I q;exact h2 jn s σ H D I (xG (by rw[I.len];exact(pe.mp hj).1) q)
theorem Fo{x:Str}{px ap cp:Pos}(hr:DSs X xN gs)(hi:X.N[j]?=some x:=by rfl)(hv:Vis X.env.scope x:=by trivial)(hd:(x == ("__debug__" : Str))=false:=by decide)
  (FG:(x == ("__classdict__" : Str))=false:=by decide) (Ih:attributeBase (.Name x px) "clear" X.env (eval (.Name x px) X.env)=eval (.Name x px) X.env:=by rfl)
  (Ig:(ap.endLine == cp.line)=true:=by rfl) (hsw:swapsWith (.Call (.Attribute (.Name x px) "clear" ap) [] [] cp) none pos.line X.env=pure false:=by rfl) :
  DMs X j (.Expr (.Call (.Attribute (.Name x px) "clear" ap) [] [] cp) pos::xN) (Dm.p6 gs):=
 PSs.weak (bU (jv (DX MN PySem.F.slot_list_clear PySem.F.type_list_clear vV (gg hi hv hd FG) Ih Ig) hsw) hr) fun _ _ _=>AH
end
section
variable{j:Nat}{σs:L2.St}{ρs:Dm.Env}{H0s Hs:Hp}{σ:L2.St}{ρ ρ':Dm.Env}{H0 H H0' H':Hp}{p:Dm.Dp}
theorem MS.seen'(n:MS j σs ρs H0s Hs σ ρ H0 H p){ρx:Dm.Env}{Hb:Hp}(t:ESt σ (Dm.see j ρx p) Hb H ρ' H0' H'):aJ H0 H H0 H':=
 ⟨ah.refl _,fun a o e=>t.stp.s1 a o e iY,fun a o e=>.inr e,n.st.same.trans fun a o e=>t.stp.s1 a o e iY⟩
theorem AJ{b:Nat}{ρ1:Dm.Env}{d:Dat}(h:b≠j):(Dm.see j (ρ1.set b .un) p).set b (.sh d)=Dm.see j (ρ1.set b (.sh d)) p:=by unfold Dm.see Dm.pW;rw[show Dm.Cell.sh d=Dm.shC (.sh d) from rfl,<- List.map_set,List.set_comm _ _ (Lg h),M8];rfl
theorem MS.row{rows items:List Dm.Dp}{d:Dat}{m:Nat}(nx:MS j σs ρs H0s Hs σ ρ H0 H (.l rows))(hr:rows[m]?=some (.t [.s d,.l items])) :
  ∃(L A q:Addr) (vs ls:List V) (vd:V),σ[j]?=some (some (.ref L))/\H L=some (.lst vs)/\vs.length=rows.length/\vs[m]?=some (.ref A)/\H A=some (.tup [vd,.ref q])/\H q=some (.lst ls)/\ls.length=items.length/\Rep H0 vd d/\Hs q=none /\
   (∀Hb,ah H0 Hb->(∀a o,Hs a=none->H a=some o->Hb a=some o)->Rep Hb (.ref q) (.lst (Dm.Dp.bR items))) /\
   ∀w wd,Rep H0 w wd->MS j σs ρs H0s Hs σ ρ H0 (upd H q (.lst (ls++[w]))) (.l (rows.set m (.t [.s d,.l (items++[.s wd])]))):=by
 obtain⟨v,fp,q1,q2,q3⟩:=nx.ex;cases q2 with
 |l nL hL rs=>
  rename_i L vs fq;obtain⟨nd1,nd2⟩:=LI.mp q3.1;obtain⟨v',f',c1,c2,c3,c4,c5⟩:=rs.change nd2 hr;cases c2 with
  |t nA hA ra=>
   rename_i A us;cases ra with
   |cons r1 rr=>
    cases r1 with
    |s rd=>
     cases rr with
     |cons r2 r3=>
      cases r3;cases r2 with
      |l nq hq rq=>
       rename_i vd q ls fz;have qm:q∈[]++(q::fz++[]):=by simp
       obtain⟨z1,z2⟩:=q3.2 q (Kw _ (c3 q qm));have neL:L≠q:=fun y=>nd1 (y▸c3 q qm);have neA:A≠q:=fun y=>by rw[y,hq]at hA;cases hA
       refine⟨L,A,q,vs,ls,vd,q1,hL,rs.length,c1,hA,hq,rq.length,rd,nq,fun Hb s k=>.lst (.inl (k _ _ nq hq)) (rq.rep s k),fun w wd rw=>?_⟩;have t:=nx.wr nq z1 z2 (.lst (ls++[w]));have ndz:q∉fz:=by simp at c4;exact c4.1
       have rz:aG (fun a=>Hs a=none) H0 (upd H q (.lst (ls++[w]))) (ls++[w]) (items++[.s wd]) fz:=by have z:=rq.snoc (bQ.s (N:=fun a=>Hs a=none) (H:=H) rw);rw[K4]at z;refine z.mono (ah.refl _) (fun _ z=>z) (fun a us _ z=>?_) fun a ha=>af fun z=>ndz (z▸ha);rw[af fun y=>by rw[y,hq]at z;cases z];exact z
       have Ia:bQ (fun a=>Hs a=none) H0 (upd H q (.lst (ls++[w]))) (.ref A) (.t [.s d,.l (items++[.s wd])]) ([]++(q::fz++[])):=
        .t nA (by rw[af neA];exact hA) (.cons (.s rd) (.cons (.l nq aq rz) .nil))
       exact⟨t.st,t.stp,t.own,t.fx,_,L::fq,q1,.l nL (by rw[af neL];exact hL) (c5 q _ _ ls qm hq Ia),q3⟩
end
section
variable{D:Ends}{σ:L2.St}{H:Hp}{j:Nat}
theorem Fp{K:gb}{a b:Nat}{fi f r:FE}{t:FT}{gs:Dm.FC}(hb:b<σ.length)(ha:a<σ.length)(h:tDC j (Dm.qX (Dm.rB j a b fi t r f) gs) D σ H) :
  jH (ng (tOp (DR K) (qC j) (tD fi)) (Dr K 2 (dX [a,b]))) (jH (vz (tDT t) (uc (tD r)) oU) (jH (oV (tBM K "list" ny (qC b) (tDA [f]))) (tDC j gs))) D σ H:=by
 obtain⟨σs,ρs,H0s,Hs,H0,ρ,p,o,n,e,k⟩:=h;unfold Dm.qX at e
 generalize eo:Dm.rB j a b fi t r f ρ p=oo at e
 unfold Dm.rB at eo;split at eo
 ·subst eo;cases e
 rename_i Ii;have ha0:a≠0:=fun z=>Ii (.inl z);have haj:a≠j:=fun z=>Ii (.inr (.inl z));have hb0:b≠0:=fun z=>Ii (.inr (.inr (.inl z)));have hbj:b≠j:=fun z=>Ii (.inr (.inr (.inr (.inl z))));have Im:a≠b:=fun z=>Ii (.inr (.inr (.inr (.inr z))));split at eo
 case h_2=>subst eo;cases e
 rename_i rows;split at eo
 case h_2=>subst eo;cases e
 rename_i z ρ1 e1;split at eo
 ·subst eo;cases e
 rename_i m em;split at eo
 case h_2=>subst eo;cases e
 rename_i d items hm;obtain⟨L,A,q,vs,ls,vd,k1,k2,k3,k4,k5,k6,k7,k8,k9,k10,_⟩:=n.row hm;refine⟨_,k1,_,_,_,ρ1,n.see,e1,fun y H1 Hb t1 r1=>?_⟩;have g1:=n.seen t1;have n1:=n.grow g1;refine⟨L,vs,z,.ref A,rfl,Rep.isInt r1,.inl (.inl (g1.s1 _ _ k2)),?_,A,_,rfl,.of (g1.s1 _ _ k5),rfl,vd,_,rfl,_,_,rfl,rfl,?_⟩
 ·show (L2.ixN vs.length z).bind (fun j=>vs[j]?)=_;rw[k3,<- D6,em];exact k4
 have n2:=n1.set ha0 haj k8;obtain⟨s1,s2⟩:=n2.st.qW b (some (.ref q));have n3:=n2.bind s1 s2 (gc hbj) (gc hb0);have lk:∀{Hx:Hp},MS j σs ρs H0s Hs ((σ.set a (some vd)).set b (some (.ref q))) ((ρ.set a (.sh d)).set b .un) H0 Hx (.l rows)->ah H Hx->ak (bor H0 Hx (Look Hs ((σ.set a (some vd)).set b (some (.ref q))) ((ρ.set a (.sh d)).set b .un))) Hx ((σ.set a (some vd)).set b (some (.ref q))) (Dm.see j ((ρ.set a (.sh d)).set b (.sh (.lst (Dm.Dp.bR items)))) (.l rows)):=fun {Hx} nx s=>by have z:=nx.see.jR (i:=b) (k10 _ cZ fun a o y w=>fy nx.st.same (.inl y) (s _ _ w));rw[AJ hbj,M8]at z;exact z
 split at eo
 ·subst eo;cases e
 ·rename_i ρt et;refine⟨_,_,true,ρt,lk n3 g1.s1,et,fun H2 Hc t2=>?_⟩;dsimp only;rw[if_pos rfl];have n4:=n3.grow (n3.seen' t2);split at eo
  case h_2=>subst eo;cases e
  rename_i w ρr er;split at eo
  ·subst eo;cases e
  rename_i nb;subst eo;cases e;exact⟨_,_,_,ρr,n4.see,er,fun v H3 Hd t3 r3=>k _ v H0 Hd _ (n4.grow (n4.seen t3)) (Rep.plain r3 (by simpa using nb))⟩
 ·rename_i ρt et;refine⟨_,_,false,ρt,lk n3 g1.s1,et,fun H2 Hc t2=>?_⟩;dsimp only;rw[if_neg K7];have g2:=n3.seen' t2;have n4:=n3.grow g2;split at eo
  case h_2=>subst eo;cases e
  rename_i w ρr er;split at eo
  ·subst eo;cases e
  rename_i nb;split at eo
  case isFalse=>subst eo;cases e
  rename_i hz;subst eo;have q6:=g2.s1 _ _ (g1.s1 _ _ k6);refine⟨.ref q,KW (by rw[K8];exact hb),.inl ⟨rfl,ls,.inl (.inl q6)⟩,_,_,[.val w],ρr,n4.see,by unfold Dm.eAs;rw[er];rfl,fun ws H3 Hd t3 r3=>?_⟩;cases r3 with
  |cons r rr=>
   cases rr;rename_i wv;have g3:=n4.seen t3;have n5:=n4.grow g3;have rp:Rep H0 wv w:=Rep.plain r (by simpa using nb);obtain⟨L',A',q',vs',ls',vd',j1,j2,j3,j4,j5,j6,j7,j8,j9,j10,jk⟩:=n5.row hm;rw[gc hbj,gc haj,k1]at j1;cases j1;have g:=(g1.s1.trans g2.s1).trans g3.s1;have ev:vs'=vs:=by have:=g _ _ k2;rw[j2]at this;cases this;rfl
   subst ev;rw[k4]at j4;cases j4;have:=g _ _ k5;rw[j5]at this;cases this;have el:ls'=ls:=by have:=g _ _ k6;rw[j6]at this;cases this;rfl
   subst el;exact⟨q,ls',_,rfl,rfl,j6,by rw[j7];exact KN hz (by decide),_,_,_,_,_,_,_,o,jk wv w rp,e,k⟩
end
section
variable{X:Cx}{c e i r:Expr}{gs:Dm.FC}{fi f fr:FE}{t:FT}{xN:List Stmt}{pos pos2 Ib:Pos}{j:Nat}
theorem Ic(a b:Nat){x y z:Str}{py pz px sp ap cp zp tpos rp:Pos}{kt:Nat}(hc:X.calm=true)(hN:X.N.Nodup)(hi':DE X i fi)(ht:DT X c t)(hr:DE X r fr)(he:DE X e f)(hre:DCs X j xN gs)
  (hi:X.N[j]?=some x:=by rfl) (hv:Vis X.env.scope x:=by trivial) (hd:(x == ("__debug__" : Str))=false:=by decide) (FG:(x == ("__classdict__" : Str))=false:=by decide) (A3:nk i:=by intro _ _;rfl)
  (hya:X.N[a]?=some y:=by rfl) (hly:Loc X.env.scope y:=by trivial) (hfy:X.fn y=true\/X.env.scope.names.lookup y=some .local:=by trivial)
  (hzb:X.N[b]?=some z:=by rfl) (hlz:Loc X.env.scope z:=by trivial) (hfz:X.fn z=true\/X.env.scope.names.lookup z=some .local:=by trivial)
  (hvz:Vis X.env.scope z:=by trivial) (hdz:(z == ("__debug__" : Str))=false:=by decide) (hcz:(z == ("__classdict__" : Str))=false:=by decide)
  (hn:(assignEach [.Name y py,.Name z pz] X.env).length=2:=by rfl) (hst:(assignEach [.Name y py,.Name z pz] X.env).findIdx? (·.1)=none:=by rfl)
  (hs1:(assignEach [.Name y py,.Name z pz] X.env).map (·.2)=assign (.Name y py) X.env::(assignEach [.Name z pz] X.env).map (·.2):=by rfl) (hs2:(assignEach [.Name z pz] X.env).map (·.2)=assign (.Name z pz) X.env::(assignEach [] X.env).map (·.2):=by rfl)
  (hs:swapsWithSole [.Tuple [.Name y py,.Name z pz] kt tpos] (.Subscript (.Name x px) i sp) pos.line X.env=pure false:=by rfl) (hw:swappedStores [.Tuple [.Name y py,.Name z pz] kt tpos] (.Subscript (.Name x px) i sp) X.env=pure none:=by rfl) (h1:(assignEach [.Tuple [.Name y py,.Name z pz] kt tpos] X.env).map (·.2)=[assign (.Tuple [.Name y py,.Name z pz] kt tpos) X.env]:=by rfl)
  (Ih:attributeBase (.Name z zp) "append" X.env (eval (.Name z zp) X.env)=eval (.Name z zp) X.env:=by rfl)
  (hfew:((backTo cp (starEach [e] X.env)).all (fun x=>!x.1)&&(backToKw cp (keywordEach [] X.env)).all (fun x=>x.1.isSome)
   && decide ([e].length+([]:List Keyword).length+(if ([]:List Keyword).isEmpty then 0 else 1)<30))=true:=by rfl)
  (Ig:(ap.endLine == cp.line)=true:=by rfl) (hse:starEach [e] X.env=(false,eval e X.env)::starEach [] X.env:=by rfl) (Ij:(backTo cp (starEach [] X.env)).any (·.1)=false:=by rfl)
  (hsw:swapsWith (.Call (.Attribute (.Name z zp) "append" ap) [e] [] cp) none Ib.line X.env=pure false:=by rfl) :
  DCs X j (.Assign [.Tuple [.Name y py,.Name z pz] kt tpos] (.Subscript (.Name x px) i sp) pos::.If c [.Return (some r) rp] [] pos2::.Expr (.Call (.Attribute (.Name z zp) "append" ap) [e] [] cp) Ib::xN) (Dm.qX (Dm.rB j a b fi t fr f) gs):=by
 have h:=bU (vC (BQ se (gg hi hv hd FG) hi' A3) (qD hc (jJ (gO hN hya hly hfy) (jJ (gO hN hzb hlz hfz) rY hs2) hs1) hn hst) hs hw h1) (bU (rX (pos:=pos2) ht (gM (jI (pos:=rp) hr)) ju)
  (bU (jv (BS MN PySem.F.slot_list_append PySem.F.type_list_append iO (gg (pos:=zp) hzb hvz hdz hcz) (aC he eH hse) Ih hfew Ig hse Ij) hsw) hre))
 intro jn s σ H D I q;exact h jn s σ H D I (Fp (by rw[I.len];exact(pe.mp hzb).1) (by rw[I.len];exact(pe.mp hya).1) q)
end
theorem cT{α β:Type}(r:β->β->Bool)(f:α->β):∀l:List α,(Dm.aZ (fun a b=>r (f a) (f b)) l).map f=Dm.aZ r (l.map f)
 |[]=>rfl
 |x::l=>by
  have Fg:∀(x:α) (m:List α),(Dm.ins (fun a b=>r (f a) (f b)) x m).map f=Dm.ins r (f x) (m.map f):=fun x m=>by
   induction m with
   |nil=>rfl
   |cons y m ih=>rw[Dm.ins,KA,Dm.ins];split<;>simp[ih]
  rw[Dm.aZ,Fg,cT r f l,KA,Dm.aZ]
theorem p7{α β γ:Type}{f:α->γ}{g:β->γ}:∀{l:List α} {m:List β},l.map f=m.map g->∀x∈l.zip m,f x.1=g x.2
 |[],_,_,x,h=>by simp at h
 |_::_,[],_,x,h=>by simp at h
 |a::l,b::m,e,x,h=>by
  rw[KA,KA]at e;rw[Lw]at h;rcases KD.mp h with rfl | h
  ·exact(List.cons.inj e).1
  ·exact p7 (List.cons.inj e).2 x h
theorem n8{α β:Type}{f:α->β}{l m:List α}(p:l.Perm m)(e:l.map f=m.map f)(n:(l.map f).Nodup):l=m:=by
 refine List.ext_getElem p.length_eq fun i h1 h2=>?_;refine n6 n (MC h1) (p.mem_iff.mpr (MC h2)) ?_;have:=congrArg (fun z=>z[i]?) e
 simpa [h1,h2] using this
theorem xH{H0 H:Hp}{key:Dat->Option (List Int)}:∀{us:List V} {its keys:List Value} {ds:List Dat} {kss:List (List Int)},Paired (fun k ks=>∃r,cz H k ks r) keys kss->Vals us its->av H0 us ds->Dm.keysOf key ds=some kss ->
  ∃qs:List Qd,qs.map (fun q=>(q.k,q.v))=keys.zip its/\qs.map (·.d)=ds/\qs.map (·.ks)=kss/\qs.map (·.u)=us/\∀q∈qs,q.Ok H0 H key
 |[],_,keys,_,kss,p,.nil,.nil,e=>by cases e;cases p;exact⟨[],rfl,rfl,rfl,rfl,fun q h=>by cases h⟩
 |u::us,v::its,keys,d::ds,kss,p,.cons hv rv,.cons hr rr,e=>by
  unfold Dm.keysOf at e;split at e
  ·rename_i x xs e1 e2;cases e;cases p with
   |cons h t=>
    rename_i k keys';obtain⟨qs,a1,a2,a3,a5,a4⟩:=xH t rv rr e2;refine⟨⟨k,v,u,d,x⟩::qs,by rw[KA,a1];rfl,by rw[KA,a2],by rw[KA,a3],by rw[KA,a5],fun q hq=>?_⟩;rcases KD.mp hq with rfl | hq
    ·exact⟨h,hv,hr,e1⟩
    ·exact a4 q hq
  ·cases e
theorem rC{H0 H:Hp}{ok:Addr->Bool}{key:Dat->Option (List Int)}{keys its:List Value}{us:List V}{ps:List Dm.Dp}{kss:List (List Int)}(pk:Paired (fun k ks=>∃r,cz H k ks r) keys kss)(rv:Vals us its)(rr:av H0 us (Dm.Dp.bR ps))
  (e:Dm.keysOf key (Dm.Dp.bR ps)=some kss) (nd:kss.Nodup) (hok:∀k∈keys,∀a,k=.ref a->ok a=true) {xs:Array Keyed} (hp:xs.Perm (keys.toArray.zip its.toArray)) (hs:Ts.Seg (aX H ok) xs 0 xs.size) :
  ∃(zs:List V) (out:List Value),xs.map (·.2)=out.toArray/\Vals zs out/\zs.length=us.length/\(zs.zip (Dm.aZ (Dm.ltP key) ps)).Perm (us.zip ps):=by
 obtain⟨qs,a1,a2,a3,a5,a4⟩:=xH pk rv rr e;have pm:xs.toList.Perm (keys.zip its):=by
  have:=LV.mp hp
  rwa [show (keys.toArray.zip its.toArray).toList=keys.zip its by simp]at this
 obtain⟨qs',b1,b2⟩:=i0 (fun q:Qd=>(q.k,q.v)) pm qs a1;have ok':∀q∈qs',q.Ok H0 H key:=fun q hq=>a4 q (b1.mem_iff.mp hq);have mk:∀q∈qs',q.k∈keys:=fun q hq=>by
  have:(q.k,q.v)∈keys.zip its:=by rw[<- a1];exact List.mem_map_of_mem (b1.mem_iff.mp hq)
  exact(Mb this).1
 have kq:∀q∈qs',kC H ok q.k=some q.ks:=fun q hq=>by obtain⟨r,z⟩:=(ok' q hq).k2;exact ig z (hok _ (mk q hq))
 have ka:KeysOf (aX H ok) xs:=fun p hp=>by rw[<- b2]at hp;obtain⟨q,hq,rfl⟩:=Lz.mp hp;exact⟨q.ks,kq q hq⟩
 have so:qs'.Pairwise (fun x y=>Dm.lx y.ks x.ks=false):=by have:=(Ts.cY ka (i:=0) (j:=xs.size) (Nat.le_refl _)).mp hs;rw[Ts.dB,NT,<- b2,Mw]at this;refine this.imp_of_mem fun {x y} hx hy hle=>?_;have hle':Dm.lx (Ts.kp (aX H ok) (y.k,y.v)) (Ts.kp (aX H ok) (x.k,x.v))=false:=hle;unfold Ts.kp at hle';have e1:(aX H ok).keyOf (x.k,x.v).1=some x.ks:=kq x hx;have e2:(aX H ok).keyOf (y.k,y.v).1=some y.ks:=kq y hy;rw[e1,e2]at hle';exact hle'
 have es:qs'.map (·.d)=Dm.aZ (Dm.ltK key) (Dm.Dp.bR ps):=by
  have hk:∀d∈Dm.Dp.bR ps,∃x,key d=some x:=fun d hd=>by rw[<- a2]at hd;obtain⟨q,hq,rfl⟩:=Lz.mp hd;exact⟨_,(a4 q hq).key⟩
  refine Dm.gC (((b1.map (·.d)).trans (.of_eq a2)).trans (Dm.bg _ _).symm) (fun a ha b hb h1 h2=>?_) ?_ (Dm.gf key _ hk)
  ·obtain⟨x,hx,rfl⟩:=Lz.mp ha;obtain⟨y,hy,rfl⟩:=Lz.mp hb;rw[Dm.cg (ok' x hx).key (ok' y hy).key]at h1;rw[Dm.cg (ok' y hy).key (ok' x hx).key]at h2;have:=Dm.fu _ _ h1 h2;rw[n6 (f:=Qd.ks) (by rw[a3];exact nd) (b1.mem_iff.mp hx) (b1.mem_iff.mp hy) this]
  ·rw[Mw];refine so.imp_of_mem fun {x y} hx hy h=>?_;rw[Dm.cg (ok' y hy).key (ok' x hx).key];exact h
 have vals:∀l:List Qd,(∀q∈l,q.Ok H0 H key)->Vals (l.map (·.u)) (l.map (·.v)):=fun l=>by
  induction l with
  |nil=>intro _;exact .nil
  |cons q l ih=>intro h;exact .cons (h q Kz).rel (ih fun z hz=>h z (Kw _ hz))
 have xR:qs.length=ps.length:=by have:=congrArg List.length a2;rw[Dm.Dp.bJ]at this;simpa using this
 have f1:(qs.zip ps).map NY=qs:=NH (L3 xR);have f2:(qs.zip ps).map Nj=ps:=NI (L3 xR.symm);obtain⟨L,p1,p2⟩:=i0 NY b1 _ f1;have hz:∀x∈L,x.1.d=x.2.dat:=fun x hx=>p7 (f:=Qd.d) (g:=Dm.Dp.dat) (by rw[a2,Dm.Dp.bJ]) x (p1.mem_iff.mp hx);have ndd:(ps.map Dm.Dp.dat).Nodup:=by rw[<- Dm.Dp.bJ,<- a2];have:=a3▸nd;unfold N5 at this ⊢;rw[Mw]at this ⊢;exact this.imp_of_mem fun {x y} hx hy n z=>n (by have e1:=(a4 x hx).key;rw[z,(a4 y hy).key]at e1;exact(Option.some.inj e1).symm)
 have e3:L.map Nj=Dm.aZ (Dm.ltP key) ps:=by
  refine n8 (f:=Dm.Dp.dat) (((p1.map Nj).trans (.of_eq f2)).trans (Dm.bg _ ps).symm) ?_ ?_
  ·rw[show (Dm.aZ (Dm.ltP key) ps).map Dm.Dp.dat=Dm.aZ (Dm.ltK key) (ps.map Dm.Dp.dat) from cT _ _ ps,<- Dm.Dp.bJ ps,<- es,<- p2,Lq,Lq];exact ME fun x hx=>(hz x hx).symm
  ·exact(((p1.map Nj).trans (.of_eq f2)).map Dm.Dp.dat).nodup_iff.mpr ndd
 refine⟨qs'.map (·.u),qs'.map (·.v),?_,vals qs' ok',?_,?_⟩
 ·apply Array.toList_inj.mp;rw[Array.toList_map,<- b2,Lq];rfl
 ·rw[gp,b1.length_eq,<- a5,gp]
 ·have z:∀M:List (Qd×Dm.Dp),((M.map NY).map Qd.u).zip (M.map Nj)=M.map fun x=>(x.1.u,x.2):=fun M=>by
   induction M with
   |nil=>rfl
   |cons x M ih=>simp only[KA,Lw,ih]
  have w1:(qs'.map Qd.u).zip (Dm.aZ (Dm.ltP key) ps)=L.map fun x=>(x.1.u,x.2):=by rw[<- z L,p2,e3]
  have w2:us.zip ps=(qs.zip ps).map fun x=>(x.1.u,x.2):=by rw[<- z (qs.zip ps),f1,f2,a5]
  rw[w1,w2];exact p1.map _
section
variable{X:Cx}
theorem rE{k:Nat}{x:Str}{params:Arguments}{body:Expr}{scope:Scope}{fk:FE}{jn:List (Addr×Obj)}{σ:L2.St}{H1 H2:Hp}{s:Shared}{us:List Value}{Q:VK}{l:Addr}{ys:List V}{ps:List Dm.Dp}{kss:List (List Int)}{H0:Hp}{fa c P0:Addr}{ct:Value}{bd:Nat}(hbd:bd<=100000)(runs:∀{A:Around} {E:Value->Shared->Prop} {s:Shared} {κ:KeyKind} {kd:SortKind} {a₀:Array Keyed},Ts.cW (model X.prog X.w) A E s κ kd->KeysOf κ a₀->a₀.size<=bd->Ts.kB X.prog X.w A E s κ kd a₀)(hr:aV (k+3) X.A)
  (S:ao [x] [x] scope) (hbind:∀(pm:Value) (c:Addr) (ct v:Value),bindArgs (NW "<lambda>" (X.env.qual ++ "<lambda>") params body scope [] pm (.ref c) ct) ⟨[v],[]⟩=pure [(x,v)])
  (hb:∀(fa c:Addr) (A:Around) (outer:List Env) (s:Shared) (H:Hp),aV k A->DE (gS CX0 X.prog X.w X.K X.mg X.base [x] (X.env.qual ++ "<lambda>") scope fa (.ref c) A outer s H E0).nox body fk)
  (I2:Inv X ((fa,fC X params body scope c ct)::jn) σ H2 s) (lc:rj H2 P0 c (X.env.qual ++ "<lambda>")) (s12:ah H1 H2) (fr1:∀b,s.heap.objs.size<=b->H1 b=none) (rv0:Vals [.ref l] us) (sm:ah H0 H1) (ra:av H0 ys (Dm.Dp.bR ps)) (qa:Rd H1 l (.lst ys)) (hz:(Dm.Dp.bR ps).length<=bd) (hk:Dm.keysOf (Dm.fX fk) (Dm.Dp.bR ps)=some kss) (nd:kss.Nodup)
  (kk:∀a zs H',H1 a=none->H' a=some (.lst zs)->ah H1 H'->(zs.zip (Dm.aZ (Dm.ltP (Dm.fX fk)) ps)).Perm (ys.zip ps)->zs.length=ys.length->Q (.ref a) H') :
  wpAny (model X.prog X.w) X.A (call (.builtin "sorted") us [(NB "key",.ref fa)]) (EP X jn σ Q) X.xe s:=by
 obtain⟨u,rfl,rx⟩:=vals1 rv0;cases rx;have qa2:Rd H2 l (.lst ys):=qa.elim (fun z=>.inl (s12 _ _ z)) fun⟨o,z⟩=>.inr ⟨o,s12 _ _ z⟩;obtain⟨its,rv,pl,hzz⟩:=I2.list (.inl qa2);have xR:=rv.length;have hlen2:=ra.length;obtain⟨kl,kat⟩:=Dm.mC hk;have sm2:ah H0 H2:=fun b o e=>s12 _ _ (sm _ _ e);have hA2:aV k X.A.in1.in1:=(hr.mono (by lia:k+2<=k+3)).in1.in1;have hu:X.A.in1.in1.units<cLine:=hA2.DJ;refine Ts.qZ (q:=fa) (KJ X ((fa,fC X params body scope c ct)::jn) σ H2 kss) pl.isList (by lia) (fun h' kp g1 g2=>?_) (fun a kS s' h'' keys ea ek hj kp g1 g2=>?_) (fun a kS i v keys s' ea ek hv hi hj=>?_) fun a kS s' keys E ea ek hj hkl=>?_
 ·refine⟨H2,I2.kept (t':=s.toks) kp,ah.refl _,fun b hb=>?_,[],kss,rfl,.nil⟩;have hge:s.heap.objs.size<=b:=by rcases hb with rfl | rfl<;>lia
  refine⟨I2.oW hge (I2.hok.fresh hge),?_⟩;rcases hb with rfl | rfl
  ·exact g1
  ·exact g2
 ·obtain⟨H',I',s',fp,r⟩:=hj;refine⟨H',gx (fp:=[a,kS]) (t':=_) I' (fun b hb=>(fp b (by simpa using hb)).1) fun b u hb e=>kp b u (fun z=>hb (by simp[z])) (fun z=>hb (by simp[z])) e,s',fun b hb=>⟨(fp b hb).1,by rcases hb with rfl | rfl;exact g1;exact g2⟩,r⟩
 ·obtain⟨H',I',s',fp,done,xN,uT,pk⟩:=hj;have hil:i<its.length:=(pe.mp hv).1;obtain⟨u,hu1,ru⟩:∃u,ys[i]?=some u/\RelV u v:=by
   have hi':i<ys.length:=by lia
   obtain⟨v',e1,e2⟩:=rv.get (KG hi');rw[hv]at e1;cases e1;exact⟨_,KG hi',e2⟩
  obtain⟨d,hd1,rd⟩:=av.GL ra hu1;obtain⟨ks,hks,kd⟩:=kat i d hd1;obtain⟨n,dl,ms,ρ',ef,ei,rfl⟩:=xA kd;have pin:=I'.pin (fa,fC X params body scope c ct) (KQ _ Kz);have sm':ah H0 H':=fun b o e=>s' _ _ (sm2 _ _ e);have hq:tD fk (start [x] [u]) H' (fun v H''=>ah H' H''/\∃(ad bd:Addr),v=.ref ad/\H'' ad=some (.tup [.int n,.ref bd])/\H'' bd=some (.tup (ms.map V.int))):=by
   refine⟨H0,[.sh d],_,ρ',Ax sm' rd,ef,fun v H0' H'' es rep=>?_⟩;refine⟨fun b o e=>es.stp.s1 b o e fun⟨j,d',h1,_⟩=>?_,?_⟩
   ·cases j with
    |zero=>cases h1
    |succ j=>simp at h1
   ·have zB:Rep H0' v (.tup [.int n,.tup dl]):=rep;cases zB with
    |tup h1 rs=>
     cases rs with
     |cons r1 rs=>
     cases rs with
     |cons r2 rs=>
     cases rs;cases r1;cases r2 with
     |tup h2 rs2=>have:=kc rs2 ei;subst this;exact⟨_,_,rfl,es.st.same _ _ h1,es.st.same _ _ h2⟩
  refine wpAny_call (codeAny_mono (Aw (us:=[v]) (vs:=[u]) S hA2 I'.DM.in1.in1 pin.1 ((lc.mono s').rec I'.hok) (hbind _ _ _ _) (.cons ru .nil) rfl (hb _ _ _ _ _ _ hA2) hq) fun r s'' hcr=>?_);cases r with
  |error e=>exact(show False from hcr)
  |ok fl=>
   cases fl with
   |next=>exact hcr
   |brk=>exact hcr
   |cont=>exact hcr
   |ret uv=>
    obtain⟨v',H'',os,bare,un,hok,rv',sm3,ad,bd,rfl,h1,h2⟩:=hcr;cases rv';have I'':Inv X ((fa,fC X params body scope c ct)::jn) σ H'' s'':=by obtain⟨hh,g,dd,tt,os'⟩:=s'';obtain rfl:os'=_:=os;exact I'.call (ch:=[]) un hok bare (fun b z=>absurd z (by simp))
    have nfr:∀b,b=a\/b=kS->b∉frs X.stack:=fun b hb z=>(KD.mp (I'.m8 b z)).elim (fp b hb).1.2.1 (fp b hb).1.2.2.1;refine⟨⟨H'',I'',fun b o e=>sm3 _ _ (s' _ _ e),fun b hb=>?_,done++[n::ms],xN.tail,?_,?_⟩,fun b o hb e=>un.keep b o e (fp b hb).1.1 (nfr b hb) (by simp)⟩
    ·obtain⟨⟨f0,f1⟩,o,eo⟩:=fp b hb;exact⟨⟨un.free b o eo f0 (by simp),f1⟩,o,un.keep b o eo f0 (nfr b hb) (by simp)⟩
    ·have hl:=gD pk;rw[uT,hi.symm,hl,KI (Nat.le_refl _),Ma]at hks;cases xN with
     |nil=>cases hks
     |cons y xN=>cases hks;rw[uT,Ln];rfl
    ·refine jd (Paired.vp pk fun k ks ⟨r,er,a1,b1,n1,m1,e1,g1,g2,g3⟩=>⟨r,er,a1,b1,n1,m1,e1,sm3 _ _ g1,sm3 _ _ g2,g3⟩) ⟨[],rfl,ad,bd,n,ms,rfl,h1,h2,rfl⟩
 ·obtain⟨H',I',sH,fp,done,xN,uT,pk⟩:=hj;have hl:=gD pk;have er:xN=[]:=by
   have:=congrArg List.length uT;rw[KL]at this;exact List.eq_nil_of_length_eq_zero (by lia)
  subst er;rw[K4]at uT;subst uT
  let ok:Addr->Bool:=fun a=>keys.any fun v=>v == .ref a
  have okT:∀v∈keys,∀a,v=.ref a->ok a=true:=fun v hv a e=>by subst e;exact M0.mpr ⟨_,hv,by simp⟩
  have okI:∀a,ok a=true->LD a∈keys:=fun a h=>by
   obtain⟨v,hv,e⟩:=M0.mp h;have:v=.ref a:=by simpa using e
   subst this;exact hv
  have pk2:Paired (fun k ks=>∃r,cz H' k ks r) keys kss:=Paired.vp pk fun k ks ⟨r,_,z⟩=>⟨r,z⟩;have nil:∀{v:Value} {ks:List Int} {r:List V},v∈keys->cz H' v ks r->r=[]:=fun {v ks r} hv ⟨a,b,n,ns,e,h1,h2,h3⟩=>by obtain⟨ks',_,r',er,a',b',n',ns',e',h1',_⟩:=d9 pk v hv;rw[e]at e';cases e';rw[h1]at h1';cases h1';exact er
  have hKO:KeysOf (aX H' ok) (keys.toArray.zip its.toArray):=fun q hq=>by rw[show (keys.toArray.zip its.toArray).toList=keys.zip its by simp]at hq;obtain⟨x,y⟩:=q;have hm:=(Mb hq).1;obtain⟨ks,_,r,z⟩:=d9 pk2 x hm;exact⟨ks,ig z (okT _ hm)⟩
  refine⟨aX H' ok,tuples' true,hKO,fun h2 Q' hq'=>?_,runs (l_ fun x y kx ky {Q'} {E''} hx hy q=>?_) hKO (by rw[Array.size_zip,Ky,Ky];lia),fun xs h'' hp hs kp Ko hc=>?_⟩
  ·exact Cn I'.hok (fun _ _ e=>e) (fun v hv=>by obtain⟨ks,_,r,z⟩:=d9 pk2 v hv;exact⟨ks,r,z⟩) (by lia) hq'
  ·obtain⟨r1,a1,e1,o1,k1⟩:=fS hx;obtain⟨r2,a2,e2,o2,k2⟩:=fS hy;have m1:=nil (by rw[e1];exact okI _ o1) k1;have m2:=nil (by rw[e2];exact okI _ o2) k2;subst m1 m2;exact lt2 hu I'.hok (fun _ _ e=>e) k1 k2 rfl (fun _=>⟨[],rfl,rfl⟩) q
  ·obtain⟨zs,out,eo,vo,lz,rz⟩:=rC (H0:=H0) pk2 rv ra hk nd okT hp hs;obtain⟨c',hc⟩:=hc;rw[eo]at hc;have I3:=gx (fp:=[a,kS]) (t':=s'.toks) I' (fun b hb=>(fp b (by simpa using hb)).1) fun b u hb e=>kp b u (fun z=>hb (by simp[z])) (fun z=>hb (by simp[z])) e;obtain⟨f0,f1,f2,f3,f4,f5⟩:=(fp a (.inl rfl)).1;have hge:s.heap.objs.size<=a:=by lia
   have n0:X.s₀.heap.get? a=none:=M6 (Nat.le_trans I2.sz hge);have new:bq X.prog X.w (upd H' a (.lst zs)) h'' a (.lst zs):=⟨by rw[lz];exact hzz,out,c',vo,hc⟩
   have I4:=Inv.HL I3 (o:=.lst zs) f0 new n0 f1 f4 f5;have I5:Inv X jn σ (upd H' a (.lst zs)) { s' with heap:=h'',toks:=s'.toks }:=I4.jt fun p hp=>I4.pin p (KQ _ (Kw _ hp));have h1a:H1 a=none:=fr1 a hge;have sm1:ah H1 H':=fun b o e=>sH _ _ (s12 _ _ e);have Ii:∀b o,H' b=some o->b≠a:=fun b o e z=>by rw[z,f0]at e;cases e
   refine⟨.ref a,_,I5,rfl,kk a zs _ h1a aq (fun b o e=>?_) rz lz⟩;rw[af (Ii b o (sm1 _ _ e))];exact sm1 _ _ e
end
theorem aG.perm{N:Addr->Prop}{H0 H:Hp}:∀{l m:List (V×Dm.Dp)},l.Perm m->∀{fp:List Addr},aG N H0 H (l.map NY) (l.map Nj) fp->∃fp',aG N H0 H (m.map NY) (m.map Nj) fp'/\fp'.Perm fp:=fun {l m} p=>by
 induction p with
 |nil=>intro fp r;exact⟨fp,r,.refl _⟩
 |cons x p ih=>
  intro fp r;cases r with
  |cons h t=>obtain⟨f',t',q⟩:=ih t;exact⟨_,.cons h t',q.append_left _⟩
 |swap x y l=>
  intro fp r;cases r with
  |cons h t=>
   cases t with
   |cons h2 t2=>rename_i f1 f2 f3;refine⟨_,.cons h2 (.cons h t2),?_⟩;rw[<- Ln,<- Ln];exact M4.append_right _
 |trans p q ih1 ih2=>intro fp r;obtain⟨f1,r1,q1⟩:=ih1 r;obtain⟨f2,r2,q2⟩:=ih2 r1;exact⟨f2,r2,q2.trans q1⟩
def xJ(b:Nat)(fk:FE)(j:Nat):TE:=fun σ H Q=>∃l ys ps kss H0,σ[j]?=some (some (.ref l))/\ah H0 H/\av H0 ys (Dm.Dp.bR ps)/\Rd H l (.lst ys)/\(Dm.Dp.bR ps).length<=b/\Dm.keysOf (Dm.fX fk) (Dm.Dp.bR ps)=some kss/\kss.Nodup /\
 ∀a zs H',H a=none->H' a=some (.lst zs)->ah H H'->(zs.zip (Dm.aZ (Dm.ltP (Dm.fX fk)) ps)).Perm (ys.zip ps)->zs.length=ys.length->Q (.ref a) H'
theorem xK{D:Ends}{σ:L2.St}{H:Hp}{j b:Nat}{fk:FE}(h:tDQ j (Dm.gF b fk) D σ H):uc (xJ b fk j) D σ H:=by
 obtain⟨σs,ρs,H0s,Hs,H0,ρ,p,q,n,e,k⟩:=h;unfold Dm.gF at e;split at e
 case h_2=>cases e
 rename_i ps;split at e
 case isFalse=>cases e
 rename_i hz;split at e
 case h_2=>cases e
 rename_i kss hk;split at e
 case isFalse=>cases e
 rename_i nd;cases e;obtain⟨v,fp,h1,h2,h3⟩:=n.ex;cases h2 with
 |l nL hL rs=>
  rename_i L vs fq;obtain⟨nd1,nd2⟩:=LI.mp h3.1;refine⟨L,vs,ps,kss,bor H0 H (fun a=>Hs a=none),h1,nY n.st.same,rs.rep cZ (fun a o z w=>fy n.st.same z w),.inl hL,by rw[Dm.Dp.bJ,gp];exact hz,hk,nd,fun a zs H' ha hl sm pm lz=>?_⟩;have g:aJ H0 H H0 H':=⟨ah.refl _,sm,fun a o e=>.inr e,n.st.same.trans sm⟩
  have n2:=n.grow g;have r2:aG (fun a=>Hs a=none) H0 H' vs ps fq:=rs.mono (ah.refl _) (fun _ z=>z) (fun a us _ h=>sm _ _ h) fun a ha=>by obtain⟨_,xs,h⟩:=rs.fpN a ha;rw[sm _ _ h,h]
  have ll:(Dm.aZ (Dm.ltP (Dm.fX fk)) ps).length=zs.length:=by rw[(Dm.bg _ ps).length_eq,lz,rs.length]
  obtain⟨fp',w1,w2⟩:=aG.perm pm.symm (by rw[NH (L3 rs.length),NI (L3 rs.length.symm)];exact r2);rw[NH (L3 ll.symm),NI (L3 ll)]at w1;have hna:a∉fp':=fun z=>by obtain⟨_,xs,h⟩:=rs.fpN a (w2.mem_iff.mp z);rw[ha]at h;cases h
  refine k _ _ _ _ _ (a::fp') n2.sst (.l (.inl (n.stp.gone ha)) hl (w1.mono (ah.refl _) (fun b z=>.inl z) (fun _ _ _ h=>h) fun _ _=>rfl)) (LI.mpr ⟨hna,w2.nodup_iff.mpr nd2⟩) fun b hb=>?_;rcases KD.mp hb with rfl | hb
  ·exact n.st.same.free ha
  ·exact(h3.2 b (Kw _ (w2.mem_iff.mp hb))).1
section
variable{X:Cx}
theorem AK(bd:Nat)(hbd:bd<=100000)(runs:∀{A:Around} {E:Value->Shared->Prop} {s:Shared} {κ:KeyKind} {kd:SortKind} {a₀:Array Keyed},Ts.cW (model X.prog X.w) A E s κ kd->KeysOf κ a₀->a₀.size<=bd->Ts.kB X.prog X.w A E s κ kd a₀){k j:Nat}{x y:Str}{params:Arguments}{body:Expr}{scope:Scope}{fk:FE}{p py pos kpos lF rpos:Pos}{P0:Addr}(hr:aV (k+3) X.A)(hg:Gl X "sorted")(hm:X.mg "sorted" = none)
  (tb:Ff X.mg X.base X.env.code P0) (ht:X.H₀ P0=some (.tbl (rawInt lF.line) (rawInt lF.col) (X.env.qual ++ "<lambda>")))
  (S:ao [x] [x] scope) (hbind:∀(pm:Value) (c:Addr) (ct v:Value),bindArgs (NW "<lambda>" (X.env.qual ++ "<lambda>") params body scope [] pm (.ref c) ct) ⟨[v],[]⟩=pure [(x,v)])
  (hb:∀(fa c:Addr) (A:Around) (outer:List Env) (s:Shared) (H:Hp),aV k A->DE (gS CX0 X.prog X.w X.K X.mg X.base [x] (X.env.qual ++ "<lambda>") scope fa (.ref c) A outer s H E0).nox body fk)
  (hj:X.N[j]?=some y:=by rfl) (hv:Vis X.env.scope y:=by trivial) (hd:(y == ("__debug__" : Str))=false:=by decide) (FG:(y == ("__classdict__" : Str))=false:=by decide)
  (hcl:closureFor scope X.env=pure []:=by rfl) (hdef:defaultsOf params X.env=([],[]):=by rfl) (hs:starEach [N7 y py] X.env=(false,eval (.Name y py) X.env)::starEach [] X.env:=by rfl)
  (he:backTo pos (starEach [N7 y py] X.env)=(false,eval (.Name y py) X.env)::backTo pos (starEach [] X.env):=by rfl) (A3:(backTo pos (starEach [N7 y py] X.env)).any (·.1)=false:=by rfl) :
  DHs X j [.Return (some (.Call (.Name "sorted" p) [.Name y py] [⟨some "key",.Lambda params body scope lF,kpos⟩] pos)) rpos] (Dm.gF bd fk):=by
 refine gM (PS.weak (jI (te:=xJ bd fk j) ?_) fun _ _ _=>xK);intro jn s σ H Q I h;obtain⟨l,ys,ps,kss,H0,e1,sm,ra,qa,hz,hk,nd,kk⟩:=h;refine wpAny_Call_Name_kw (cD I hg hm (by rfl) ?_ (by decide) (by decide));refine PyProof.Rows.callWith_kw (thn (gR (gg hj hv hd FG) ni hs pos jn s σ H (fun vs H1=>vs=[.ref l]/\H1=H) I ⟨_,e1,rfl,rfl⟩) fun us s1 ⟨vs,H1,I1,r1,q1⟩=>?_) he A3 rfl rfl;obtain⟨rfl,rfl⟩:=q1;refine kws_cons (xx I1 tb hcl hdef (I1.base.iK _ _ _ _ ht) fun fa c ct H2 s2 I2 lc sm2 sz=>?_);exact kws_nil (rE hbd runs hr S hbind hb I2 lc sm2 (fun b hb=>I1.hok.fresh (Nat.le_trans sz hb)) r1 sm ra qa hz hk nd kk)
end
end Br
namespace Dm
section
variable{ρ:Env}{K:RV->Prop}{Q:Val->Env->Prop}{o p:Option Dat}{R:RV->Env->Prop}{N:Env->Prop}{B C:Env->Prop}{i j:Int}{α:Type}{d:Dat}{f:List Dat->Option (RV×Dat)}{ds:List Dat}{as:List FE}{xs:List Dat}{a:FE}{X Y:Prop}{g:Dat->Option RV}{c:Bool}{l h:Option Int}{e:FE}{body:FS}{v:RV}{t:FT}{ρ2 ρ3:Env}{n m:Nat}{s u:FS}{it:FI}{bd:FB}
def We(e:FE)(ρ:Env)(Q:Val->Env->Prop):Prop:=∃v ρ',e ρ=some (v,ρ')/\Q v ρ'
def Wt(t:FT)(ρ:Env)(Q:Bool->Env->Prop):Prop:=∃v ρ',t ρ=some (v,ρ')/\Q v ρ'
def Was(as:List FE)(ρ:Env)(Q:List Val->Env->Prop):Prop:=∃v ρ',eAs as ρ=some (v,ρ')/\Q v ρ'
def Wi(it:FI)(ρ:Env)(Q:List Dat->Env->Prop):Prop:=∃v ρ',it ρ=some (v,ρ')/\Q v ρ'
def KO(N:Env->Prop)(R:RV->Env->Prop)(B C:Env->Prop):Out->Prop
 |.nx ρ=>N ρ
 |.ret r ρ=>R r ρ
 |.bk ρ=>B ρ
 |.ct ρ=>C ρ
def Ws(s:FS)(ρ:Env)(N:Env->Prop)(R:RV->Env->Prop)(B C:Env->Prop):Prop:=∃o,s ρ=some o/\KO N R B C o
def Wr(o:Option RV)(P:RV->Prop):Prop:=∃r,o=some r/\P r
def Wif(c:Bool)(X Y:Prop):Prop:=(c=true->X)/\(c=false->Y)
def Wg1(g:Dat->Option RV)(o:Option Dat)(K:RV->Prop):Prop:=∃d v,o=some d/\g d=some v/\K v
def Wg2(g:Dat->Dat->Option RV)(o p:Option Dat)(K:RV->Prop):Prop:=∃d e v,o=some d/\p=some e/\g d e=some v/\K v
def WB(g:List Dat->Option RV)(o:Option (List Dat))(K:RV->Prop):Prop:=∃ds v,o=some ds/\g ds=some v/\K v
def WT(o:Option (List Dat×Env))(K:List Dat->Env->Prop):Prop:=∃ds ρ,o=some (ds,ρ)/\ds.length<=SZ/\K ds ρ
def WF(f:List Dat->Option RV)(ρ:Env)(xs:List Val)(Q:Val->Env->Prop):Prop:=∃ds v,pks ρ xs=some ds/\f ds=some v/\(if cQ v.dat then ∃ds' ρ2,tks ρ xs=some (ds',ρ2)/\Q v.bF ρ2 else Q v.bF ρ)
def Wk(ρ:Env)(x:Val)(K:Dat->Env->Prop):Prop:=∃d ρ',tk ρ x=some (d,ρ')/\K d ρ'
def Wp(o:Option FE)(ρ:Env)(K:Option Int->Env->Prop):Prop:=∃i ρ',part o ρ=some (i,ρ')/\K i ρ'
theorem O6(x:X):Wif true X Y:=⟨fun _=>x,fun h=>by cases h⟩
theorem OH(y:Y):Wif false X Y:=⟨fun h=>(by cases h),fun _=>y⟩
theorem Ph(h:c=true)(x:X):Wif c X Y:=⟨fun _=>x,fun h'=>by rw[h]at h';cases h'⟩
theorem OD(h:c=false)(y:Y):Wif c X Y:=⟨fun h'=>(by rw[h]at h';cases h'),fun _=>y⟩
theorem PB{p:Prop}[Decidable p](x:p->X)(y:¬p->Y):Wif (decide p) X Y:=⟨fun h=>x (of_decide_eq_true h),fun h=>y (of_decide_eq_false h)⟩
theorem K_{i:Nat}(h:ρ[i]?=some (.sh d))(q:Q (.val d) ρ):We (eV i) ρ Q:=⟨_,_,by unfold eV;rw[h],q⟩
theorem OB{i:Nat}(h:ρ[i]?=some (.ow d))(q:Q (.slot i) ρ):We (eV i) ρ Q:=⟨_,_,by unfold eV;rw[h],q⟩
theorem N8(q:Q (.val d) ρ):We (eC d) ρ Q:=⟨_,_,rfl,q⟩
theorem OQ(h:We a ρ fun x ρ1=>Wg1 g (pk ρ1 x) fun v=>Q v.bF ρ1):We (e1 g a) ρ Q:=by obtain⟨x,ρ1,h1,d,v,h2,h3,q⟩:=h;exact⟨_,_,by unfold Dm.e1;rw[h1];dsimp only;rw[h2];dsimp only;rw[h3],q⟩
theorem M_{g:Dat->Dat->Option RV}{a b:FE}(h:We a ρ fun x ρ1=>We b ρ1 fun y ρ2=>Wg2 g (pk ρ2 x) (pk ρ2 y) fun v=>Q v.bF ρ2):We (e2 g a b) ρ Q:=by obtain⟨x,ρ1,h1,y,ρ2,h2,d,e,v,h3,h4,h5,q⟩:=h;exact⟨_,_,by unfold Dm.e2;rw[h1];dsimp only;rw[h2];dsimp only;rw[h3];dsimp only;rw[h4];dsimp only;rw[h5],q⟩
theorem L_{Q:List Val->Env->Prop}(q:Q [] ρ):Was [] ρ Q:=⟨_,_,rfl,q⟩
theorem m_{r:List FE}{Q:List Val->Env->Prop}(h:We a ρ fun x ρ1=>Was r ρ1 fun xs ρ2=>Q (x::xs) ρ2):Was (a::r) ρ Q:=by obtain⟨x,ρ1,h1,xs,ρ2,h2,q⟩:=h;exact⟨_,_,by unfold eAs;rw[h1];dsimp only;rw[h2],q⟩
theorem Oj{g:List Dat->Option RV}(h:Was as ρ fun xs ρ1=>WB g (pks ρ1 xs) fun v=>Q v.bF ρ1):We (eB g as) ρ Q:=by obtain⟨x,ρ1,h1,d,v,h2,h3,q⟩:=h;exact⟨_,_,by unfold eB;rw[h1];dsimp only;rw[h2];dsimp only;rw[h3],q⟩
theorem OR(h:Was as ρ fun xs ρ1=>WT (tks ρ1 xs) fun ds ρ2=>Q (.val (.tup ds)) ρ2):We (eN as) ρ Q:=by obtain⟨x,ρ1,h1,ds,ρ2,h2,h3,q⟩:=h;exact⟨_,_,by unfold eN;rw[h1];dsimp only;rw[h2];dsimp only;rw[if_pos h3],q⟩
theorem OG(h:Was as ρ fun xs ρ1=>WT (tks ρ1 xs) fun ds ρ2=>Q (.new (.lst ds)) ρ2):We (dI as) ρ Q:=by obtain⟨x,ρ1,h1,ds,ρ2,h2,h3,q⟩:=h;exact⟨_,_,by unfold dI;rw[h1];dsimp only;rw[h2];dsimp only;rw[if_pos h3],q⟩
theorem Om{xs:List Val}{K:List Dat->Env->Prop}(k:K ds ρ3)(h:tks ρ xs=some (ds,ρ2))(hn:ρ2=ρ3)(hl:ds.length<=SZ):WT (tks ρ xs) K:=⟨_,_,hn▸h,hl,k⟩
theorem Oc{f:List Dat->Option RV}(h:Was as ρ fun xs ρ1=>WF f ρ1 xs Q):We (eF f as) ρ Q:=by
 obtain⟨x,ρ1,h1,ds,v,h2,h3,h4⟩:=h;by_cases hb:cQ v.dat=true
 ·rw[if_pos hb]at h4;obtain⟨ds',ρ2,h5,q⟩:=h4;exact⟨_,_,by unfold eF;rw[h1];dsimp only;rw[h2];dsimp only;rw[h3];dsimp only;rw[if_pos hb,h5],q⟩
 ·rw[if_neg hb]at h4;exact⟨_,_,by unfold eF;rw[h1];dsimp only;rw[h2];dsimp only;rw[h3];dsimp only;rw[if_neg hb],h4⟩
theorem Og{f:List Dat->Option RV}{ρ ρ2 ρ3:Env}{xs:List Val}{ds ds':List Dat}(h2:f ds=some v)(q:Q v.bF ρ3)(h1:pks ρ xs=some ds)(h3:cQ v.dat=true)(h4:tks ρ xs=some (ds',ρ2))(hn:ρ2=ρ3):WF f ρ xs Q:=
 ⟨_,_,h1,h2,by rw[if_pos h3];exact⟨_,_,h4,hn▸q⟩⟩
theorem Oi{f:List Dat->Option RV}{xs:List Val}(h2:f ds=some v)(q:Q v.bF ρ)(h1:pks ρ xs=some ds)(h3:cQ v.dat=false):WF f ρ xs Q:=
 ⟨_,_,h1,h2,by rw[if_neg (by rw[h3];decide)];exact q⟩
theorem P_{a b:FE}(h:Wt t ρ fun c ρ1=>Wif c (We a ρ1 Q) (We b ρ1 Q)):We (eIf t a b) ρ Q:=by
 obtain⟨c,ρ1,h1,h2,h3⟩:=h;cases c with
 |true=>obtain⟨v,ρ2,h4,q⟩:=h2 rfl;exact⟨_,_,by unfold eIf;rw[h1];exact h4,q⟩
 |false=>obtain⟨v,ρ2,h4,q⟩:=h3 rfl;exact⟨_,_,by unfold eIf;rw[h1];exact h4,q⟩
def Wb(v:Val)(K:Bool->Prop):Prop:=∃c,v=.val (.bl c)/\K c
theorem Oa{K:Bool->Prop}(k:K c):Wb (.val (.bl c)) K:=⟨c,rfl,k⟩
theorem O4{a b:FE}(h:We a ρ fun v ρ1=>Wb v fun c=>Wif c (We b ρ1 Q) (Q (.val (.bl false)) ρ1)):We (iP a b) ρ Q:=by
 obtain⟨v,ρ1,h1,c,rfl,h2,h3⟩:=h;cases c with
 |true=>obtain⟨v,ρ2,h4,q⟩:=h2 rfl;exact⟨_,_,by unfold iP;rw[h1];exact h4,q⟩
 |false=>exact⟨_,_,by unfold iP;rw[h1],h3 rfl⟩
theorem PY(h:We a ρ fun v ρ1=>Wb v fun c=>Q (.val (.bl (!c))) ρ1):We (qI a) ρ Q:=by obtain⟨v,ρ1,h1,c,rfl,h2⟩:=h;exact⟨_,_,by unfold qI;rw[h1],h2⟩
theorem Of{Q:Bool->Env->Prop}(h:We a ρ fun v ρ1=>Wb v fun c=>Q c ρ1):Wt (tV a) ρ Q:=by obtain⟨v,ρ1,h1,c,rfl,h2⟩:=h;exact⟨_,_,by unfold tV;rw[h1],h2⟩
theorem OA{Q:Bool->Env->Prop}(h:Wt t ρ fun c ρ1=>Q (!c) ρ1):Wt (dg t) ρ Q:=by obtain⟨v,ρ1,h1,h2⟩:=h;exact⟨_,_,by unfold dg;rw[h1],h2⟩
theorem PZ{t u:FT}{Q:Bool->Env->Prop}(h:Wt t ρ fun c ρ1=>Wif c (Wt u ρ1 Q) (Q false ρ1)):Wt (lg t u) ρ Q:=by
 obtain⟨c,ρ1,h1,h2,h3⟩:=h;cases c with
 |true=>obtain⟨v,ρ2,h4,q⟩:=h2 rfl;exact⟨_,_,by unfold lg;rw[h1];exact h4,q⟩
 |false=>exact⟨_,_,by unfold lg;rw[h1],h3 rfl⟩
theorem OP{t u:FT}{Q:Bool->Env->Prop}(h:Wt t ρ fun c ρ1=>Wif c (Q true ρ1) (Wt u ρ1 Q)):Wt (tOr t u) ρ Q:=by
 obtain⟨c,ρ1,h1,h2,h3⟩:=h;cases c with
 |false=>obtain⟨v,ρ2,h4,q⟩:=h3 rfl;exact⟨_,_,by unfold tOr;rw[h1];exact h4,q⟩
 |true=>exact⟨_,_,by unfold tOr;rw[h1],h2 rfl⟩
theorem Pr{Q:Bool->Env->Prop}(q:Q true ρ):Wt di ρ Q:=⟨_,_,rfl,q⟩
theorem Oh{K:Dat->Env->Prop}(k:K d ρ):Wk ρ (.val d) K:=⟨_,_,rfl,k⟩
theorem OS{K:Dat->Env->Prop}(k:K d ρ):Wk ρ (.new d) K:=⟨_,_,rfl,k⟩
noncomputable def xM:Dat->Option (List Dat)
 |.lst ds=>some ds
 |.tup ds=>some ds
 |_=>none
theorem Px{Q:List Dat->Env->Prop}(h:We a ρ fun x ρ1=>Wk ρ1 x fun d ρ2=>∃ds,xM d=some ds/\Q ds ρ2):Wi (iS a) ρ Q:=by
 obtain⟨x,ρ1,h1,d,ρ2,h2,ds,hd,q⟩:=h;cases d with
 |lst xs=>cases hd;exact⟨_,_,by unfold iS;rw[h1];dsimp only;rw[h2],q⟩
 |tup xs=>cases hd;exact⟨_,_,by unfold iS;rw[h1];dsimp only;rw[h2],q⟩
 |_=>cases hd
def cG(v:Val)(K:Int->Prop):Prop:=∃i,v=.val (.int i)/\K i
theorem cG.mk{i:Int}{K:Int->Prop}(k:K i):cG (.val (.int i)) K:=⟨i,rfl,k⟩
theorem Pc{Q:List Dat->Env->Prop}(h:We a ρ fun v ρ1=>cG v fun j=>Q (ups 0 j.toNat) ρ1/\j<=BIG/\-BIG<=j):Wi (iR1 a) ρ Q:=by obtain⟨v,ρ1,h1,j,rfl,q,h2⟩:=h;exact⟨_,_,by unfold iR1;rw[h1];dsimp only;rw[if_pos h2],q⟩
theorem Po{a b:FE}{Q:List Dat->Env->Prop}(h:We a ρ fun v ρ1=>cG v fun i=>We b ρ1 fun w ρ2=>cG w fun j=>Q (ups i (j-i).toNat) ρ2/\j<=BIG/\-BIG<=j/\i<=BIG/\-BIG<=i):Wi (iR2 a b) ρ Q:=by obtain⟨v,ρ1,h1,i,rfl,w,ρ2,h2,j,rfl,q,h3⟩:=h;exact⟨_,_,by unfold iR2;rw[h1];dsimp only;rw[h2];dsimp only;rw[if_pos h3],q⟩
theorem Qi{Q:List Dat->Env->Prop}(h:We a ρ fun x ρ1=>Wk ρ1 x fun d ρ2=>∃ds,d=.lst ds/\Q ds.reverse ρ2):Wi (uI a) ρ Q:=by obtain⟨x,ρ1,h1,d,ρ2,h2,ds,rfl,q⟩:=h;exact⟨_,_,by unfold uI;rw[h1];dsimp only;rw[h2],q⟩
theorem QJ{Q:List Dat->Env->Prop}(h:We a ρ fun x ρ1=>Wk ρ1 x fun d ρ2=>∃ds,d=.lst ds/\Q (g6 0 ds) ρ2):Wi (iEn a) ρ Q:=by obtain⟨x,ρ1,h1,d,ρ2,h2,ds,rfl,q⟩:=h;exact⟨_,_,by unfold iEn;rw[h1];dsimp only;rw[h2],q⟩
theorem Wp.none{K:Option Int->Env->Prop}(k:K none ρ):Wp none ρ K:=⟨_,_,rfl,k⟩
theorem Wp.some{f:FE}{K:Option Int->Env->Prop}(h:We f ρ fun v ρ1=>cG v fun i=>K (some i) ρ1):Wp (some f) ρ K:=by obtain⟨v,ρ1,h1,i,rfl,k⟩:=h;exact⟨_,_,by unfold part;dsimp only;rw[h1],k⟩
def Wsl(o:Option Dat)(l h:Option Int)(K:Dat->Prop):Prop:=∃xs,o=some (.lst xs)/\K (.lst (cut xs l h))
theorem Wsl.mk{o:Option Dat}{K:Dat->Prop}(k:K (.lst (cut xs l h)))(ho:o=some (.lst xs)):Wsl o l h K:=⟨xs,ho,k⟩
noncomputable def AL{α:Type}(xs:List α)(lo hi:Option Int):List α:=(xs.drop (sIx xs.length 0 lo)).take (sIx xs.length xs.length hi-sIx xs.length 0 lo)
theorem Ie(kK:α->Dat)(xs:List α)(lo hi:Option Int):cut (xs.map kK) lo hi=(AL xs lo hi).map kK:=by unfold cut AL;rw[gp,<- N1,<- List.map_take]
theorem Wsl.A{kK:α->Dat}{xs:List α}{o:Option Dat}{K:Dat->Prop}(k:K (.lst ((AL xs l h).map kK)))(ho:o=some (.lst (xs.map kK))):Wsl o l h K:=⟨_,ho,by rw[Ie];exact k⟩
theorem Pp{lo hi:Option FE}(h:We a ρ fun x ρ1=>Wp lo ρ1 fun l ρ2=>Wp hi ρ2 fun h ρ3=>Wsl (pk ρ3 x) l h fun d=>Q (.new d) ρ3):We (eSl a lo hi) ρ Q:=by obtain⟨x,ρ1,h1,l,ρ2,h2,hh,ρ3,h3,xs,h4,q⟩:=h;exact⟨_,_,by unfold eSl;rw[h1];dsimp only;rw[h2];dsimp only;rw[h3];dsimp only;rw[h4],q⟩
theorem Ou(n:N ρ):Ws sNx ρ N R B C:=⟨_,rfl,n⟩
theorem N9(h:Ws s ρ (fun ρ1=>Ws u ρ1 N R B C) R B C):Ws (aI s u) ρ N R B C:=by
 obtain⟨o,h1,h2⟩:=h;cases o with
 |nx ρ1=>obtain⟨o,h3,h4⟩:=h2;exact⟨o,by unfold aI;rw[h1];exact h3,h4⟩
 |ret r ρ1=>exact⟨.ret r ρ1,by unfold aI;rw[h1],h2⟩
 |bk ρ1=>exact⟨.bk ρ1,by unfold aI;rw[h1],h2⟩
 |ct ρ1=>exact⟨.ct ρ1,by unfold aI;rw[h1],h2⟩
def WA(i:Nat)(v:Val)(ρ:Env)(N:Env->Prop):Prop:=match v with
 |.new d=>N (ρ.set i (.ow d))
 |x=>Wk ρ x fun d ρ2=>N (ρ2.set i (.sh d))
theorem Ob{i:Nat}(h:We e ρ fun v ρ1=>WA i v ρ1 N)(hi:i≠0):Ws (sA i e) ρ N R B C:=by
 obtain⟨v,ρ1,h1,h2⟩:=h;cases v with
 |new d=>exact⟨.nx _,by unfold sA;rw[if_neg hi,h1],h2⟩
 |val d=>obtain⟨d',ρ2,h3,h4⟩:=h2;exact⟨.nx _,by unfold sA;rw[if_neg hi,h1];dsimp only;rw[h3],h4⟩
 |slot j=>obtain⟨d',ρ2,h3,h4⟩:=h2;exact⟨.nx _,by unfold sA;rw[if_neg hi,h1];dsimp only;rw[h3],h4⟩
theorem Oq{i:Nat}{ρ ρ2:Env}(n:N ρ2)(hs:ρ.set i (.ow d)=ρ2):WA i (.new d) ρ N:=by unfold WA;dsimp only;rw[hs];exact n
theorem Od{i:Nat}{ρ ρ2:Env}(n:N ρ2)(hs:ρ.set i (.sh d)=ρ2):WA i (.val d) ρ N:=⟨_,_,rfl,by show N _;rw[hs];exact n⟩
theorem P5(h:We e ρ fun _ ρ1=>N ρ1):Ws (sE e) ρ N R B C:=by obtain⟨x,ρ1,h1,n⟩:=h;exact⟨.nx _,by unfold sE;rw[h1],n⟩
def WR(v:Val)(ρ:Env)(R:RV->Env->Prop):Prop:=match v with
 |.new d=>R (.new d) ρ
 |.val d=>R (.val d) ρ
 |.slot i=>(∃d,ρ[i]?=some (.ow d)/\R (.new d) (ρ.set i .un))
theorem Ol(h:We e ρ fun v ρ1=>WR v ρ1 R):Ws (sR e) ρ N R B C:=by
 obtain⟨v,ρ1,h1,h2⟩:=h;cases v with
 |new d=>exact⟨.ret _ _,by unfold sR;rw[h1],h2⟩
 |val d=>exact⟨.ret _ _,by unfold sR;rw[h1],h2⟩
 |slot i=>obtain⟨d,h3,h4⟩:=h2;exact⟨.ret _ _,by unfold sR;rw[h1];dsimp only;rw[h3],h4⟩
theorem O5(r:R (.new d) ρ):WR (.new d) ρ R:=r
theorem OL(r:R (.val d) ρ):WR (.val d) ρ R:=r
theorem Pj{i:Nat}(r:R (.new d) (ρ.set i .un))(h:ρ[i]?=some (.ow d)):WR (.slot i) ρ R:=⟨d,h,r⟩
theorem Ox{a b:FS}(h:Wt t ρ fun c ρ1=>Wif c (Ws a ρ1 N R B C) (Ws b ρ1 N R B C)):Ws (sIf t a b) ρ N R B C:=by
 obtain⟨c,ρ1,h1,h2,h3⟩:=h;cases c with
 |true=>obtain⟨o,h4,q⟩:=h2 rfl;exact⟨_,by unfold sIf;rw[h1];exact h4,q⟩
 |false=>obtain⟨o,h4,q⟩:=h3 rfl;exact⟨_,by unfold sIf;rw[h1];exact h4,q⟩
theorem O0{i:Nat}{ds0:List Dat}(h:We e ρ fun x ρ1=>Wk ρ1 x fun d ρ2=>∃ds ρ3,ρ2[i]?=some (.ow (.lst ds))/\ρ2.set i (.ow (.lst (ds++[d])))=ρ3/\N ρ3/\ds.length<SZ)(h0:ρ[i]?=some (.ow (.lst ds0))):Ws (nB i e) ρ N R B C:=by obtain⟨x,ρ1,h1,d,ρ2,h2,ds,ρ3,h3,h5,n,h4⟩:=h;exact⟨.nx _,by unfold nB;rw[h0];dsimp only;rw[h1];dsimp only;rw[h2];dsimp only;rw[h3];dsimp only;rw[if_pos h4,h5],n⟩
theorem kD{i:Nat}(n:N ρ3)(h:ρ2[i]?=some (.ow (.lst ds)))(hs:ρ2.set i (.ow (.lst (ds++[d])))=ρ3)(hl:ds.length<SZ):∃ds ρ3,ρ2[i]?=some (.ow (.lst ds))/\ρ2.set i (.ow (.lst (ds++[d])))=ρ3/\N ρ3/\ds.length<SZ:=⟨_,_,h,hs,n,hl⟩
theorem P1{i:Nat}{j e:FE}(h:We e ρ fun x ρ1=>Wk ρ1 x fun d ρ2=>(∃d0,ρ2[i]?=some (.ow d0))/\We j ρ2 fun y ρ3=>cG y fun k=>∃ds m ρ4,ρ3[i]?=some (.ow (.lst ds))/\ixN ds.length k=some m/\ρ3.set i (.ow (.lst (ds.set m d)))=ρ4/\N ρ4):Ws (qJ i j e) ρ N R B C:=by obtain⟨x,ρ1,h1,d,ρ2,h2,⟨d0,h0⟩,y,ρ3,h3,k,rfl,ds,m,ρ4,h4,h5,h6,n⟩:=h;exact⟨.nx _,by unfold qJ;rw[h1];dsimp only;rw[h2];dsimp only;rw[h0];dsimp only;rw[h3];dsimp only;rw[h4];dsimp only;rw[h5];dsimp only;rw[h6],n⟩
theorem OE(h:Wi it ρ fun ds ρ1=>Ws (iQ bd body ds) ρ1 N R B C):Ws (gh it bd body) ρ N R B C:=by obtain⟨ds,ρ1,h1,o,h2,h3⟩:=h;exact⟨o,by unfold gh;rw[h1];exact h2,h3⟩
theorem OI(kK:α->Dat)(bd:FB)(body:FS)(xs:List α)(ρ:Env)(N:Env->Prop)(R:RV->Env->Prop)(B C:Env->Prop)(I:List α->List α->Env->Prop)
  (h0:I [] xs ρ) (hs:∀p x q ρ,xs=p++x::q->I p (x::q) ρ->∃ρ1,bd (kK x) ρ=some ρ1/\Ws body ρ1 (fun ρ2=>I (p++[x]) q ρ2) R N (fun ρ2=>I (p++[x]) q ρ2)) (he:∀ρ,I xs [] ρ->N ρ):Ws (iQ bd body (xs.map kK)) ρ N R B C:=by
 have go:∀(q p:List α) (ρ:Env),xs=p++q->I p q ρ->Ws (iQ bd body (q.map kK)) ρ N R B C:=fun q=>by
  induction q with
  |nil=>intro p ρ e i;rw[K4]at e;exact⟨.nx _,rfl,he ρ (e▸i)⟩
  |cons x q ih=>
   intro p ρ e i;obtain⟨ρ1,h1,o,h2,h3⟩:=hs p x q ρ e i;have e':xs=(p++[x])++q:=by rw[Ln];exact e
   cases o with
   |nx ρ2=>obtain⟨o,h4,h5⟩:=ih _ _ e' h3;exact⟨o,by rw[KA,iQ,h1];dsimp only;rw[h2];exact h4,h5⟩
   |ct ρ2=>obtain⟨o,h4,h5⟩:=ih _ _ e' h3;exact⟨o,by rw[KA,iQ,h1];dsimp only;rw[h2];exact h4,h5⟩
   |bk ρ2=>exact⟨.nx _,by rw[KA,iQ,h1];dsimp only;rw[h2],h3⟩
   |ret r ρ2=>exact⟨.ret _ _,by rw[KA,iQ,h1];dsimp only;rw[h2],h3⟩
 exact go xs [] ρ rfl h0
theorem Oo{P:RV->Prop}(b:Ws body ρ (fun _=>P (.val .non)) (fun r _=>P r) (fun _=>False) (fun _=>False))(hρ:ds.map Cell.sh++Dk m .un=ρ)(h:ds.length=n):Wr (fn n m body ds) P:=by
 obtain⟨o,h1,h2⟩:=b;cases o with
 |nx ρ1=>exact⟨_,by unfold Dm.fn;rw[if_pos h,hρ,h1],h2⟩
 |ret r ρ1=>exact⟨_,by unfold Dm.fn;rw[if_pos h,hρ,h1],h2⟩
 |bk ρ1=>exact h2.elim
 |ct ρ1=>exact h2.elim
theorem Ot{o:Option RV}{r:RV}(h:Wr o fun x=>x=r):o=some r:=by obtain⟨x,h1,rfl⟩:=h;exact h1
theorem p8(kK:α->Dat)(p:α->Bool)(v:α->Dat)(bd:FB)(t:FT)(el:FE)(mk:Cell->Env)(hb:∀d c,bd d (mk c)=some (mk (.sh d))):∀(xs:List α) (c:Cell) (AR:List Dat),
  (∀x∈xs,t (mk (.sh (kK x)))=some (p x,mk (.sh (kK x))))->(∀x∈xs,p x=true->We el (mk (.sh (kK x))) fun w ρ'=>Wk ρ' w fun d ρ''=>d=v x/\ρ''=mk (.sh (kK x))) ->
  ∃c',cA bd t el (xs.map kK) (mk c) AR=some (AR++(xs.filter p).map v,mk c')
 |[],c,AR,_,_=>⟨c,by simp[cA]⟩
 |x::xs,c,AR,ht,he=>by
  rw[KA,cA,hb];dsimp only;rw[ht x Kz];have ht':=fun y hy=>ht y (Kw _ hy);have he':=fun y hy=>he y (Kw _ hy);by_cases h:p x=true
  ·obtain⟨w,ρ',h1,d,ρ'',h2,rfl,rfl⟩:=he x Kz h;rw[h];dsimp only;rw[h1];dsimp only;rw[h2];obtain⟨c',e⟩:=p8 kK p v bd t el mk hb xs (.sh (kK x)) (AR++[v x]) ht' he';exact⟨c',by dsimp only;rw[e,Mq h];simp⟩
  ·rw[Bool.not_eq_true]at h;rw[h];obtain⟨c',e⟩:=p8 kK p v bd t el mk hb xs (.sh (kK x)) AR ht' he';exact⟨c',by dsimp only;rw[e,Mr (by rw[h];decide)]⟩
theorem Pa(h:Wt t ρ fun c' ρ'=>c'=c/\ρ'=ρ):t ρ=some (c,ρ):=by obtain⟨_,_,h1,rfl,rfl⟩:=h;exact h1
theorem PD(kK:α->Dat)(xs:List α)(p:α->Bool)(v:α->Dat){it:FI}{k:Nat}{t:FT}{el:FE}{ρ ρ1:Env}{Q:Val->Env->Prop}
  (q:Q (.new (.lst ((xs.filter p).map v))) ρ1) (Cp:it ρ=some (xs.map kK,ρ1)) (hk:ρ1.length=k) (hk0:k≠0) (hl:xs.length<=SZ)
  (ht:∀x∈xs,Wt t (ρ1++[.sh (kK x)]) fun c ρ'=>c=p x/\ρ'=ρ1++[.sh (kK x)])
  (he:∀x∈xs,p x=true->We el (ρ1++[.sh (kK x)]) fun w ρ'=>Wk ρ' w fun d ρ''=>d=v x/\ρ''=ρ1++[.sh (kK x)]):We (cB it 1 (bN k) t el) ρ Q:=by
 have bd:∀(d:Dat) (c:Cell),bN k d (ρ1++[c])=some (ρ1++[.sh d]):=fun d c=>by unfold bN;rw[if_neg hk0,Lf _ _ (by lia)];simp[hk]
 obtain⟨c',e⟩:=p8 kK p v (bN k) t el (fun c=>ρ1++[c]) bd xs .un [] (fun x hx=>Pa (ht x hx)) he;refine⟨_,_,?_,q⟩;unfold cB;rw[Cp];dsimp only;rw[if_pos (by rw[gp];exact hl)];show (match cA _ _ _ _ (ρ1++[.un]) [] with | none=>none | some (ys,ρ2)=>some (Val.new (.lst ys),ρ2.take ρ1.length))=_;rw[e];dsimp only;rw[LK,Mz]
theorem Qa(kK:α->Dat)(xs:List α)(p:α->Bool)(v:α->Dat){i:Nat}{k:Nat}{t:FT}{el:FE}{ρ:Env}{Q:Val->Env->Prop}{d:Dat}
  (q:Q (.new (.lst ((xs.filter p).map v))) ρ) (hi:ρ[i]?=some (.sh d)) (hd:xM d=some (xs.map kK)) (hk:ρ.length=k) (hk0:k≠0) (hl:xs.length<=SZ)
  (ht:∀x∈xs,Wt t (ρ++[.sh (kK x)]) fun c ρ'=>c=p x/\ρ'=ρ++[.sh (kK x)])
  (he:∀x∈xs,p x=true->We el (ρ++[.sh (kK x)]) fun w ρ'=>Wk ρ' w fun d ρ''=>d=v x/\ρ''=ρ++[.sh (kK x)]):We (aS i 1 (bN k) t el) ρ Q:=by
 have Cp:iS (eV i) ρ=some (xs.map kK,ρ):=by
  unfold iS eV;rw[hi];cases d with
  |lst ys=>cases hd;rfl
  |tup ys=>cases hd;rfl
  |_=>cases hd
 obtain⟨a,ρ',h1,h2⟩:=PD kK xs p v (Q:=Q) q Cp hk hk0 hl ht he;refine⟨a,ρ',?_,h2⟩;unfold aS;rw[hi];exact h1
theorem P7(kK:α->Dat)(xs:List α)(p:α->Bool)(v:α->Dat){i:Nat}{k:Nat}{t:FT}{el:FE}{ρ ρ1:Env}{Q:Val->Env->Prop}
  (q:Q (.new (.lst ((xs.filter p).map v))) ρ) (hi:ρ[i]?=some (.ow (.lst (xs.map kK)))) (h1:ρ.set i .un=ρ1) (hk:ρ.length=k) (hk0:k≠0) (hl:xs.length<=SZ)
  (ht:∀x∈xs,Wt t (ρ1++[.sh (kK x)]) fun c ρ'=>c=p x/\ρ'=ρ1++[.sh (kK x)])
  (he:∀x∈xs,p x=true->We el (ρ1++[.sh (kK x)]) fun w ρ'=>Wk ρ' w fun d ρ''=>d=v x/\ρ''=ρ1++[.sh (kK x)]):We (aS i 1 (bN k) t el) ρ Q:=by
 have xR:ρ1.length=ρ.length:=by rw[<- h1,K8]
 have hil:i<ρ.length:=(pe.mp hi).1;have bd:∀(d:Dat) (c:Cell),bN k d (ρ1++[c])=some (ρ1++[.sh d]):=fun d c=>by unfold bN;rw[if_neg hk0,Lf _ _ (by lia)];simp[hk,xR]
 obtain⟨c',e⟩:=p8 kK p v (bN k) t el (fun c=>ρ1++[c]) bd xs .un [] (fun x hx=>Pa (ht x hx)) he;refine⟨_,_,?_,q⟩;unfold aS;rw[hi];dsimp only;rw[if_pos (by rw[gp];exact hl),h1];show (match cA _ _ _ _ (ρ1++[.un]) [] with | none=>none | some (ys,ρ2)=>some (Val.new (.lst ys),(ρ2.take ρ.length).set i (.ow (.lst (xs.map kK)))))=_;rw[e];dsimp only;rw[LK,<- xR,Mz,<- h1,M8]
 congr 2
 apply Nx;intro j;by_cases h:i=j
 ·subst h;rw[KW hil,hi]
 ·rw[gc h]
theorem PM{α β:Type}(kK:α->Dat)(xs:List α)(f:α->β)(cH:β->Dat){it:FI}{k:Nat}{el:FE}{ρ ρ1:Env}{Q:Val->Env->Prop}
  (q:Q (.new (.lst ((xs.map f).map cH))) ρ1) (Cp:it ρ=some (xs.map kK,ρ1)) (hk:ρ1.length=k) (hk0:k≠0) (hl:xs.length<=SZ)
  (he:∀x∈xs,We el (ρ1++[.sh (kK x)]) fun w ρ'=>Wk ρ' w fun d ρ''=>d=cH (f x)/\ρ''=ρ1++[.sh (kK x)]):We (cB it 1 (bN k) di el) ρ Q:=
 PD kK xs (fun _=>true) (fun x=>cH (f x)) (by rw[L5.mpr (fun _ _=>rfl)];rw[Lq]at q;exact q) Cp hk hk0 hl (fun _ _=>Pr ⟨rfl,rfl⟩) fun x hx _=>he x hx
theorem Pd{α β:Type}(kK:α->Dat)(xs:List α)(f:α->β)(cH:β->Dat){i:Nat}{k:Nat}{el:FE}{ρ:Env}{Q:Val->Env->Prop}{d:Dat}
  (q:Q (.new (.lst ((xs.map f).map cH))) ρ) (hi:ρ[i]?=some (.sh d)) (hd:xM d=some (xs.map kK)) (hk:ρ.length=k) (hk0:k≠0) (hl:xs.length<=SZ)
  (he:∀x∈xs,We el (ρ++[.sh (kK x)]) fun w ρ'=>Wk ρ' w fun d ρ''=>d=cH (f x)/\ρ''=ρ++[.sh (kK x)]):We (aS i 1 (bN k) di el) ρ Q:=
 Qa kK xs (fun _=>true) (fun x=>cH (f x)) (by rw[L5.mpr (fun _ _=>rfl)];rw[Lq]at q;exact q) hi hd hk hk0 hl (fun _ _=>Pr ⟨rfl,rfl⟩) fun x hx _=>he x hx
theorem P8{α β:Type}(kK:α->Dat)(xs:List α)(f:α->β)(cH:β->Dat){i:Nat}{k:Nat}{el:FE}{ρ ρ1:Env}{Q:Val->Env->Prop}
  (q:Q (.new (.lst ((xs.map f).map cH))) ρ) (hi:ρ[i]?=some (.ow (.lst (xs.map kK)))) (h1:ρ.set i .un=ρ1) (hk:ρ.length=k) (hk0:k≠0) (hl:xs.length<=SZ)
  (he:∀x∈xs,We el (ρ1++[.sh (kK x)]) fun w ρ'=>Wk ρ' w fun d ρ''=>d=cH (f x)/\ρ''=ρ1++[.sh (kK x)]):We (aS i 1 (bN k) di el) ρ Q:=
 P7 kK xs (fun _=>true) (fun x=>cH (f x)) (by rw[L5.mpr (fun _ _=>rfl)];rw[Lq]at q;exact q) hi h1 hk hk0 hl (fun _ _=>Pr ⟨rfl,rfl⟩) fun x hx _=>he x hx
theorem PJ{α β:Type}(kK:α->Dat)(xs:List α)(p:α->Bool)(f:α->β)(cH:β->Dat){i:Nat}{k:Nat}{t:FT}{el:FE}{ρ:Env}{Q:Val->Env->Prop}{d:Dat}
  (q:Q (.new (.lst (((xs.filter p).map f).map cH))) ρ) (hi:ρ[i]?=some (.sh d)) (hd:xM d=some (xs.map kK)) (hk:ρ.length=k) (hk0:k≠0) (hl:xs.length<=SZ)
  (ht:∀x∈xs,Wt t (ρ++[.sh (kK x)]) fun c ρ'=>c=p x/\ρ'=ρ++[.sh (kK x)])
  (he:∀x∈xs,p x=true->We el (ρ++[.sh (kK x)]) fun w ρ'=>Wk ρ' w fun d ρ''=>d=cH (f x)/\ρ''=ρ++[.sh (kK x)]):We (aS i 1 (bN k) t el) ρ Q:=
 Qa kK xs p (fun x=>cH (f x)) (by rw[Lq]at q;exact q) hi hd hk hk0 hl ht he
theorem QE{α β:Type}(kK:α->Dat)(xs:List α)(p:α->Bool)(f:α->β)(cH:β->Dat){i:Nat}{k:Nat}{t:FT}{el:FE}{ρ ρ1:Env}{Q:Val->Env->Prop}
  (q:Q (.new (.lst (((xs.filter p).map f).map cH))) ρ) (hi:ρ[i]?=some (.ow (.lst (xs.map kK)))) (h1:ρ.set i .un=ρ1) (hk:ρ.length=k) (hk0:k≠0) (hl:xs.length<=SZ)
  (ht:∀x∈xs,Wt t (ρ1++[.sh (kK x)]) fun c ρ'=>c=p x/\ρ'=ρ1++[.sh (kK x)])
  (he:∀x∈xs,p x=true->We el (ρ1++[.sh (kK x)]) fun w ρ'=>Wk ρ' w fun d ρ''=>d=cH (f x)/\ρ''=ρ1++[.sh (kK x)]):We (aS i 1 (bN k) t el) ρ Q:=
 P7 kK xs p (fun x=>cH (f x)) (by rw[Lq]at q;exact q) hi h1 hk hk0 hl ht he
theorem AO(i j:Int):gEq (.int i) (.int j)=vB (decide (i=j)):=by
 have:(i == j)=decide (i=j):=by by_cases h:i=j<;>simp[h]
 show vB (i == j)=_;rw[this]
theorem AQ(i j:Int):gNe (.int i) (.int j)=vB (!decide (i=j)):=by
 have:(i == j)=decide (i=j):=by by_cases h:i=j<;>simp[h]
 show vB (!(i == j))=_;rw[this]
theorem OV(k:K (.val (.bl (decide (i=j)))))(ho:o=some (.int i))(hp:p=some (.int j)):Wg2 gEq o p K:=⟨_,_,_,ho,hp,AO i j,k⟩
theorem Pb(k:K (.val (.bl (!decide (i=j)))))(ho:o=some (.int i))(hp:p=some (.int j)):Wg2 gNe o p K:=⟨_,_,_,ho,hp,AQ i j,k⟩
theorem Pg{i j:Bool}(k:K (.val (.bl (!(i == j)))))(ho:o=some (.bl i))(hp:p=some (.bl j)):Wg2 gNe o p K:=⟨_,_,_,ho,hp,rfl,k⟩
theorem OT(k:K (.val (.bl (decide (i<j)))))(ho:o=some (.int i))(hp:p=some (.int j)):Wg2 gLt o p K:=⟨_,_,_,ho,hp,rfl,k⟩
theorem Pw(k:K (.val (.bl (decide (i<=j)))))(ho:o=some (.int i))(hp:p=some (.int j)):Wg2 gLe o p K:=⟨_,_,_,ho,hp,rfl,k⟩
theorem OZ(k:K (.val (.bl (decide (j<i)))))(ho:o=some (.int i))(hp:p=some (.int j)):Wg2 gGt o p K:=⟨_,_,_,ho,hp,rfl,k⟩
theorem Pq(k:K (.val (.bl (decide (j<=i)))))(ho:o=some (.int i))(hp:p=some (.int j)):Wg2 gGe o p K:=⟨_,_,_,ho,hp,rfl,k⟩
theorem Oe(k:K (.val (.int (i+j))))(ho:o=some (.int i))(hp:p=some (.int j)):Wg2 bO o p K:=⟨_,_,_,ho,hp,rfl,k⟩
theorem Pu{xs ys:List Dat}(k:K (.new (.lst (xs++ys))))(ho:o=some (.lst xs))(hp:p=some (.lst ys))(h:xs.length+ys.length<=SZ):Wg2 bO o p K:=⟨_,_,_,ho,hp,by unfold bO;dsimp only;rw[if_pos h],k⟩
theorem OO(k:K (.val (.int (i-j))))(ho:o=some (.int i))(hp:p=some (.int j)):Wg2 iM o p K:=⟨_,_,_,ho,hp,rfl,k⟩
theorem OC(k:K (.val (.int (i*j))))(ho:o=some (.int i))(hp:p=some (.int j))(h:(-B64<i/\i<B64)\/(-B64<j/\j<B64)):Wg2 gk o p K:=⟨_,_,_,ho,hp,by unfold gk;dsimp only;rw[if_pos h],k⟩
theorem Pk(k:K (.val (.int (i / j))))(ho:o=some (.int i))(hp:p=some (.int j))(h:0<j/\j<gu):Wg2 uy o p K:=⟨_,_,_,ho,hp,by unfold uy;dsimp only;rw[if_pos h],k⟩
theorem Oz(k:K (.val (.int (i % j))))(ho:o=some (.int i))(hp:p=some (.int j))(h:0<j):Wg2 fV o p K:=⟨_,_,_,ho,hp,by unfold fV;dsimp only;rw[if_pos h],k⟩
theorem OX{i j z:Int}(k:K (.val (.int z)))(ho:o=some (.int i))(hp:p=some (.int j))(h:0<=j/\j<=1000000/\i.natAbs<1000000)(hz:i ^ j.toNat=z):Wg2 gv o p K:=⟨_,_,_,ho,hp,by unfold gv;dsimp only;rw[if_pos h,hz],k⟩
theorem N_{d e:Dat}{v:Dat}(k:K (.val v))(ho:o=some d)(hp:p=some e)(h:gIx d e=some (.val v)):Wg2 gIx o p K:=⟨_,_,_,ho,hp,h,k⟩
theorem jD(kK:α->Dat)(xs:List α)(i:Int)(h0:0<=i)(h1:i<xs.length):atI (xs.map kK) i=some (kK (xs[i.toNat]'(by omega))):=by unfold atI ixN;rw[gp,if_pos h0,if_pos h1];show (xs.map kK)[i.toNat]?=_;rw[KZ,KG (by lia)];rfl
theorem PC{kK:α->Dat}{xs:List α}{i:Int}(h0:0<=i)(h1:i<xs.length)(k:K (.val (kK (xs[i.toNat]'(by omega)))))(ho:o=some (.lst (xs.map kK)))(hp:p=some (.int i)):Wg2 gIx o p K:=
 ⟨_,_,_,ho,hp,by unfold gIx;dsimp only;rw[jD kK xs i h0 h1];rfl,k⟩
theorem tw(i:Int)(xs:List Int):inD (.int i) (xs.map Dat.int)=decide (i∈xs):=by
 induction xs with
 |nil=>rfl
 |cons x xs ih=>
  have ih':(xs.map Dat.int).any (fun y=>eqD y (.int i))=decide (i∈xs):=ih;unfold inD;rw[KA,List.any_cons,ih'];show ((x == i)||_)=_;by_cases h:x=i
  ·simp[h]
  ·have h':¬i=x:=fun z=>h z.symm;simp[h,h']
theorem xO(xs:List Int):(xs.map Dat.int).all (okD 7)=true:=by rw[Lx];intro d hd;obtain⟨x,_,rfl⟩:=Lz.mp hd;rfl
theorem Qn{i:Int}{xs:List Int}(k:K (.val (.bl (!decide (i∈xs)))))(ho:o=some (.int i))(hp:p=some (.lst (xs.map Dat.int))):Wg2 iR o p K:=
 ⟨_,_,_,ho,hp,by unfold iR;dsimp only;rw[show okD 8 (.int i)=true from rfl,xO,tw];rfl,k⟩
theorem O_{i:Int}{xs:List Int}(k:K (.val (.bl (decide (i∈xs)))))(ho:o=some (.int i))(hp:p=some (.tup (xs.map Dat.int))):Wg2 gIn o p K:=
 ⟨_,_,_,ho,hp,by unfold gIn;dsimp only;rw[show okD 8 (.int i)=true from rfl,xO,tw];rfl,k⟩
theorem PV{o:Option (List Dat)}(k:K (.val (.int xs.length)))(ho:o=some [.lst xs]):WB cV o K:=⟨_,_,ho,rfl,k⟩
theorem Pn{o:Option (List Dat)}(k:K (.val (.int xs.length)))(ho:o=some [.tup xs]):WB cV o K:=⟨_,_,ho,rfl,k⟩
theorem OY{o:Option (List Dat)}(k:K (.val (.int (if j<i then j else i))))(ho:o=some [.int i,.int j]):WB i9 o K:=⟨_,_,ho,rfl,k⟩
theorem OU{o:Option (List Dat)}(k:K (.val (.int (if j>i then j else i))))(ho:o=some [.int i,.int j]):WB i_ o K:=⟨_,_,ho,rfl,k⟩
theorem Pz{o:Option (List Dat)}(k:K (.new (.lst xs)))(ho:o=some [.lst xs]):WB pq o K:=⟨_,_,ho,rfl,k⟩
theorem Py{b:Bool}{o:Option (List Dat)}(k:K (.val (.int (b2i b))))(ho:o=some [.bl b]):WB uz o K:=⟨_,_,ho,rfl,k⟩
theorem OJ{o:Option Dat}(k:K v)(ho:o=some d)(h:g d=some v):Wg1 g o K:=⟨_,_,ho,h,k⟩
theorem AS(xs:List Dat)(h:okD 8 (.lst xs)=true):gEq (.lst xs) (.lst [])=vB xs.isEmpty:=by unfold gEq;rw[h];cases xs<;>rfl
theorem Cr(kK:α->Dat)(xs:List α)(h:∀x,okD 7 (kK x)=true):okD 8 (.lst (xs.map kK))=true:=by unfold okD;rw[Lx];intro d hd;obtain⟨x,_,rfl⟩:=Lz.mp hd;exact h x
theorem PN(k:K (.val (.bl xs.isEmpty)))(ho:o=some (.lst xs))(hp:p=some (.lst []))(h:okD 8 (.lst xs)=true):Wg2 gEq o p K:=⟨_,_,_,ho,hp,AS xs h,k⟩
theorem ON{kK:α->Dat}{xs:List α}{o:Option (List Dat)}(k:K (.val (.int xs.length)))(ho:o=some [.lst (xs.map kK)]):WB cV o K:=⟨_,_,ho,by unfold cV;dsimp only;rw[gp],k⟩
theorem Qf{s:FS}{N N':Env->Prop}(h:Ws s ρ N' R B C)(k:∀ρ',N' ρ'->N ρ'):Ws s ρ N R B C:=by
 obtain⟨o,h1,h2⟩:=h;cases o with
 |nx ρ1=>exact⟨.nx ρ1,h1,k _ h2⟩
 |ret r ρ1=>exact⟨.ret r ρ1,h1,h2⟩
 |bk ρ1=>exact⟨.bk ρ1,h1,h2⟩
 |ct ρ1=>exact⟨.ct ρ1,h1,h2⟩
theorem xP{i:Nat}{W:Prop}(h:ρ[i]?=some (.ow d))(w:W):(∃d0,ρ[i]?=some (.ow d0))/\W:=⟨⟨d,h⟩,w⟩
theorem cJ{ρ ρ1 ρ2:Env}{W:Env->Prop}(h:bd d ρ=some ρ1)(hn:ρ1=ρ2)(w:W ρ2):∃ρ1,bd d ρ=some ρ1/\W ρ1:=⟨ρ1,h,hn▸w⟩
theorem xQ(kK:α->Dat)(p:α->Bool)(v:α->Dat)(bd:FB)(t:FT)(el:FE)(e0:Env)(env:α->Env)(h0:∀x,bd (kK x) e0=some (env x))(h1:∀x y,bd (kK x) (env y)=some (env x)):∀(xs:List α) (AR:List Dat) (e:Env),(e=e0\/∃y,e=env y) ->
  (∀x∈xs,t (env x)=some (p x,env x))->(∀x∈xs,p x=true->We el (env x) fun w ρ'=>Wk ρ' w fun d ρ''=>d=v x/\ρ''=env x) ->
  ∃e',(e'=e0\/∃y,e'=env y)/\cA bd t el (xs.map kK) e AR=some (AR++(xs.filter p).map v,e')
 |[],AR,e,he,_,_=>⟨e,he,by simp[cA]⟩
 |x::xs,AR,e,he,ht,hel=>by
  have hb:bd (kK x) e=some (env x):=by
   rcases he with rfl | ⟨y,rfl⟩
   ·exact h0 x
   ·exact h1 x y
  rw[KA,cA,hb];dsimp only;rw[ht x Kz];have ht':=fun y hy=>ht y (Kw _ hy);have he':=fun y hy=>hel y (Kw _ hy);by_cases h:p x=true
  ·obtain⟨w,ρ',g1,d,ρ'',g2,rfl,rfl⟩:=hel x Kz h;rw[h];dsimp only;rw[g1];dsimp only;rw[g2];obtain⟨e',q,z⟩:=xQ kK p v bd t el e0 env h0 h1 xs (AR++[v x]) _ (.inr ⟨x,rfl⟩) ht' he';exact⟨e',q,by dsimp only;rw[z,Mq h];simp⟩
  ·rw[Bool.not_eq_true]at h;rw[h];obtain⟨e',q,z⟩:=xQ kK p v bd t el e0 env h0 h1 xs AR _ (.inr ⟨x,rfl⟩) ht' he';exact⟨e',q,by dsimp only;rw[z,Mr (by rw[h];decide)]⟩
theorem PF{α β:Type}(kK:α->Dat)(xs:List α)(p:α->Bool)(f:α->β)(cH:β->Dat)(env:α->Env){it:FI}{own:Nat}{bd:FB}{t:FT}{el:FE}{ρ ρ1:Env}{Q:Val->Env->Prop}
  (q:Q (.new (.lst (((xs.filter p).map f).map cH))) ρ1) (Cp:it ρ=some (xs.map kK,ρ1)) (h0:∀x,bd (kK x) (ρ1++Dk own .un)=some (env x)) (h1:∀x y,bd (kK x) (env y)=some (env x)) (h2:∀x,(env x).take ρ1.length=ρ1) (hl:xs.length<=SZ)
  (ht:∀x∈xs,Wt t (env x) fun c ρ'=>c=p x/\ρ'=env x)
  (he:∀x∈xs,p x=true->We el (env x) fun w ρ'=>Wk ρ' w fun d ρ''=>d=cH (f x)/\ρ''=env x):We (cB it own bd t el) ρ Q:=by
 obtain⟨e',q',e⟩:=xQ kK p (fun x=>cH (f x)) bd t el _ env h0 h1 xs [] _ (.inl rfl) (fun x hx=>Pa (ht x hx)) he;refine⟨_,_,?_,q⟩;unfold cB;rw[Cp];dsimp only;rw[if_pos (by rw[gp];exact hl),e];dsimp only;rw[LK,Lq];have:e'.take ρ1.length=ρ1:=by
  rcases q' with rfl | ⟨y,rfl⟩
  ·exact Mz
  ·exact h2 y
 rw[this];rfl
theorem Qu{α β:Type}(kK:α->Dat)(xs:List α)(p:α->Bool)(f:α->β)(cH:β->Dat)(d1 d2 d3:α->Dat)(henc:∀x,kK x=.tup [d1 x,d2 x,d3 x]){i k:Nat}{t:FT}{el:FE}{ρ:Env}{Q:Val->Env->Prop}{d:Dat}
  (q:Q (.new (.lst (((xs.filter p).map f).map cH))) ρ) (hi:ρ[i]?=some (.sh d)) (hd:xM d=some (xs.map kK)) (hk:ρ.length=k) (hk0:k≠0) (hl:xs.length<=SZ)
  (ht:∀x∈xs,Wt t (ρ++[.sh (d1 x),.sh (d2 x),.sh (d3 x)]) fun c ρ'=>c=p x/\ρ'=ρ++[.sh (d1 x),.sh (d2 x),.sh (d3 x)])
  (he:∀x∈xs,p x=true->We el (ρ++[.sh (d1 x),.sh (d2 x),.sh (d3 x)]) fun w ρ'=>Wk ρ' w fun d ρ''=>d=cH (f x)/\ρ''=ρ++[.sh (d1 x),.sh (d2 x),.sh (d3 x)]):We (aS i 3 (bT [k,k+1,k+2]) t el) ρ Q:=by
 have Cp:iS (eV i) ρ=some (xs.map kK,ρ):=by
  unfold iS eV;rw[hi];cases d with
  |lst ys=>cases hd;rfl
  |tup ys=>cases hd;rfl
  |_=>cases hd
 have b:∀(x:α) (c1 c2 c3:Cell),bT [k,k+1,k+2] (kK x) (ρ++[c1,c2,c3])=some (ρ++[.sh (d1 x),.sh (d2 x),.sh (d3 x)]):=fun x c1 c2 c3=>by rw[henc];show sets [k,k+1,k+2] [d1 x,d2 x,d3 x] _=_;rw[sets,if_neg hk0,sets,if_neg (by lia),sets,if_neg (by lia),sets];rw[Lf _ _ (by lia),Lf _ _ (by lia),Lf _ _ (by lia)];subst hk;rw[Ma,show ρ.length+1-ρ.length=1 by lia,show ρ.length+2-ρ.length=2 by lia];rfl
 obtain⟨a,ρ',g1,g2⟩:=PF kK xs p f cH (fun x=>(ρ++[Cell.sh (d1 x),Cell.sh (d2 x),Cell.sh (d3 x)]:Env)) (own:=3) (bd:=bT [k,k+1,k+2]) (Q:=Q) q Cp (fun x=>b x .un .un .un) (fun x y=>b x (.sh (d1 y)) (.sh (d2 y)) (.sh (d3 y))) (fun x=>Mz) hl ht he;refine⟨a,ρ',?_,g2⟩;unfold aS;rw[hi];exact g1
theorem gG(ns:List Int):cN (ns.map Dat.int)=some ns:=by
 induction ns with
 |nil=>rfl
 |cons m ms ih=>rw[KA,cN,ih];rfl
theorem uU(p:α->Bool)(xs:List α):bools (xs.map fun x=>Dat.bl (p x))=some (xs.map p):=by
 induction xs with
 |nil=>rfl
 |cons x xs ih=>rw[KA,bools,ih];rfl
theorem Pf(p:α->Bool){xs:List α}{o:Option (List Dat)}(k:K (.val (.bl (xs.all p))))(ho:o=some [.lst (xs.map fun x=>Dat.bl (p x))]):WB pA o K:=⟨_,_,ho,by
 unfold pA;dsimp only;rw[uU];have:(xs.map p).all id=xs.all p:=by rw[List.all_map];rfl
 dsimp only;rw[this],k⟩
theorem QH{ns:List Int}{o:Option (List Dat)}(k:K (.val (.int (gy ns))))(ho:o=some [.lst (ns.map Dat.int)]):WB mh o K:=⟨_,_,ho,by unfold mh;dsimp only;rw[gG],k⟩
theorem Qv{j:Int}{o:Option (List Dat)}(k:K (.new (.lst (ups 0 j.toNat))))(ho:o=some [.int j])(h:j<=1000000/\-1000000<=j):WB lZ o K:=⟨_,_,ho,by unfold lZ;dsimp only;rw[if_pos h],k⟩
theorem Ow(J:Env->Prop)(h1:Ws s ρ J R B C)(h2:∀ρ',J ρ'->Ws u ρ' N R B C):Ws (aI s u) ρ N R B C:=N9 (Qf h1 h2)
def WrM(o:Option (RV×Dat))(P:RV->Dat->Prop):Prop:=∃z d,o=some (z,d)/\P z d
theorem OW{r:List Dat}{P:RV->Dat->Prop}(b:Ws body ρ (fun ρ'=>∃d',ρ'[0]?=some (.ow d')/\P (.val .non) d') (fun z ρ'=>∃d',ρ'[0]?=some (.ow d')/\P z d') (fun _=>False) (fun _=>False))(hρ:Cell.ow d::(r.map Cell.sh++Dk m .un)=ρ)(h:(d::r).length=n):WrM (fnM n m body (d::r)) P:=by
 obtain⟨o,h1,h2⟩:=b;cases o with
 |nx ρ1=>obtain⟨d',h3,h4⟩:=h2;exact⟨_,_,by unfold fnM;rw[if_pos h];dsimp only;rw[hρ,h1];dsimp only;rw[h3],h4⟩
 |ret z ρ1=>obtain⟨d',h3,h4⟩:=h2;exact⟨_,_,by unfold fnM;rw[if_pos h];dsimp only;rw[hρ,h1];dsimp only;rw[h3],h4⟩
 |bk ρ1=>exact h2.elim
 |ct ρ1=>exact h2.elim
def WFm(f:List Dat->Option (RV×Dat))(j:Nat)(ρ1:Env)(xs:List Val)(Q:Val->Env->Prop):Prop:=
 ∃d1 ds ρ2 d v d',ρ1[j]?=some (.ow d1)/\tks ρ1 xs=some (ds,ρ2)/\ρ2[j]?=some (.ow d)/\f (d::ds)=some (v,d')/\(if (flat v.dat&&nN d')=true then Q v.bF (ρ1.set j (.ow d')) else Q v.bF (ρ2.set j (.ow d')))
theorem O8{j:Nat}{d0:Dat}(h:Was as ρ fun xs ρ1=>WFm f j ρ1 xs Q)(h0:ρ[j]?=some (.ow d0)):We (eFm f j as) ρ Q:=by
 obtain⟨xs,ρ1,h1,d1,ds,ρ2,d,v,d',h2,h3,h4,h5,q⟩:=h;by_cases c:(flat v.dat&&nN d')=true
 ·rw[if_pos c]at q;exact⟨_,_,by unfold eFm;rw[h0];dsimp only;rw[h1];dsimp only;rw[h2];dsimp only;rw[h3];dsimp only;rw[h4];dsimp only;rw[h5];dsimp only;rw[if_pos c],q⟩
 ·rw[if_neg c]at q;exact⟨_,_,by unfold eFm;rw[h0];dsimp only;rw[h1];dsimp only;rw[h2];dsimp only;rw[h3];dsimp only;rw[h4];dsimp only;rw[h5];dsimp only;rw[if_neg c],q⟩
theorem O9{j:Nat}{ρ1 ρ3:Env}{xs:List Val}{d d':Dat}(h5:f (d::ds)=some (v,d'))(q:Q v.bF ρ3)(h2:ρ1[j]?=some (.ow d))(h3:tks ρ1 xs=some (ds,ρ1))(hn:ρ1.set j (.ow d')=ρ3):WFm f j ρ1 xs Q:=
 ⟨_,_,_,_,_,_,h2,h3,h2,h5,by rw[hn];split<;>exact q⟩
theorem PR{ρ ρ1:Env}(h:Wi it ρ fun x y=>x=ds/\y=ρ1):it ρ=some (ds,ρ1):=by obtain⟨_,_,h1,rfl,rfl⟩:=h;exact h1
theorem QD{a b c:FE}{i j k:Int}{Q:List Dat->Env->Prop}(ha:a ρ=some (.val (.int i),ρ))(hb:b ρ=some (.val (.int j),ρ))(hc:c ρ=some (.val (.int k),ρ))(hk:(0<k/\k<=1000)/\j<=BIG/\-BIG<=j/\i<=BIG/\-BIG<=i)(q:Q (gA i k (cF i j k)) ρ):Wi (iRs a b c) ρ Q:=⟨_,_,by unfold iRs;rw[ha];dsimp only;rw[hb];dsimp only;rw[hc];dsimp only;rw[if_pos hk],q⟩
theorem Qk{ρ ρ':Env}{v:Val}(h:We e ρ fun x y=>x=v/\y=ρ'):e ρ=some (v,ρ'):=by obtain⟨_,_,h1,rfl,rfl⟩:=h;exact h1
theorem QF{e0:FE}(h:Was (e0::as) ρ fun xs ρ1=>∃d ys ds v d',xs=.new d::ys/\iX ys=some ds/\f (d::ds)=some (v,d')/\Q v.bF ρ1):We (eFn f e0 as) ρ Q:=by obtain⟨xs,ρ1,h1,d,ys,ds,v,d',rfl,h2,h3,q⟩:=h;refine⟨_,_,?_,q⟩;unfold eFn;rw[h1];dsimp only;rw[h2];dsimp only;rw[h3]
def Wm(g:FM)(ρ:Env)(p:Dp)(N:Env->Prop)(R:RV->Env->Prop)(B C:Env->Prop):Prop:=∃o,g ρ p=some o/\KO N R B C o
end
section
variable{N:Env->Prop}{R:RV->Env->Prop}{B C:Env->Prop}{ρ:Env}{p:Dp}
section
variable{f:List Dat->Option Dp}{j:Nat}{g:FM}
theorem Qq{as:List FE}(h:Was as ρ fun xs ρ1=>∃ds ρ2 p ρ3,f ds=some p/\Wm g ρ3 p N R B C/\tks ρ1 xs=some (ds,ρ2)/\ρ2.set j .un=ρ3)(hj:j≠0):Ws (mz j f as g) ρ N R B C:=by obtain⟨xs,ρ1,h1,ds,ρ2,p,ρ3,h2,⟨o,h3,h4⟩,h5,rfl⟩:=h;exact⟨o,by unfold mz;rw[if_neg hj,h1];dsimp only;rw[h5];dsimp only;rw[h2];exact h3,h4⟩
theorem Fv.mk{ρ1 ρ2 ρ3:Env}{xs:List Val}{ds:List Dat}{p:Dp}(h2:f ds=some p)(h3:Wm g ρ3 p N R B C)(h5:tks ρ1 xs=some (ds,ρ2))(hn:ρ2.set j .un=ρ3):∃ds ρ2 p ρ3,f ds=some p/\Wm g ρ3 p N R B C/\tks ρ1 xs=some (ds,ρ2)/\ρ2.set j .un=ρ3:=⟨_,_,_,_,h2,h3,h5,hn⟩
theorem Qy{t:FT}{fs:FS}{ρ':Env}(h:Wt t ρ' fun c _=>c=false)(k:Wm g ρ p N R B C)(e:see j ρ p=ρ'):Wm (mIf j t fs g) ρ p N R B C:=by obtain⟨c,ρ1,h1,rfl⟩:=h;obtain⟨o,h3,h4⟩:=k;exact⟨o,by unfold mIf;rw[e,h1];exact h3,h4⟩
end
end
def Wq(g:FSP)(ρ:Env)(P:Dp->Prop):Prop:=∃p,g ρ=some p/\P p
def Wp'(f:FP)(ρ:Env)(Q:Dp->Env->Prop):Prop:=∃p ρ',f ρ=some (p,ρ')/\Q p ρ'
def Wpa(fs:List FP)(ρ:Env)(Q:List Dp->Env->Prop):Prop:=∃p ρ',pAs fs ρ=some (p,ρ')/\Q p ρ'
section
variable{ρ:Env}{P:Dp->Prop}
section
variable{Q:Dp->Env->Prop}{ds:List Dat}{fs:List FP}{g:FSP}{f:FP}
theorem P9{n m:Nat}{ρ:Env}(h:Wq g ρ P)(hl:ds.length=n)(e:ds.map Cell.sh++Dk m .un=ρ):∃p,fnP n m g ds=some p/\P p:=by obtain⟨p,h1,h2⟩:=h;exact⟨p,by unfold fnP;rw[if_pos hl,e];exact h1,h2⟩
theorem PL{s:FS}(h:Ws s ρ (fun ρ1=>Wq g ρ1 P) (fun _ _=>False) (fun _=>False) (fun _=>False)):Wq (nW s g) ρ P:=by
 obtain⟨o,h1,h2⟩:=h;cases o with
 |nx ρ1=>obtain⟨p,h3,h4⟩:=h2;exact⟨p,by unfold nW;rw[h1];exact h3,h4⟩
 |ret _ _=>exact h2.elim
 |bk _=>exact h2.elim
 |ct _=>exact h2.elim
theorem Qm(h:Wp' f ρ fun p _=>P p):Wq (qR f) ρ P:=by obtain⟨p,ρ',h1,h2⟩:=h;exact⟨p,by unfold qR;rw[h1],h2⟩
theorem Qe{f:FE}{d:Dat}(h:We f ρ fun v ρ1=>v=.val d/\Q (.s d) ρ1):Wp' (pO f) ρ Q:=by obtain⟨v,ρ1,h1,rfl,h2⟩:=h;exact⟨_,_,by unfold pO;rw[h1],h2⟩
theorem Qc{f:FE}(h:We f ρ fun v ρ1=>v=.new (.lst ds)/\Q (.l (ds.map .s)) ρ1):Wp' (pO f) ρ Q:=by obtain⟨v,ρ1,h1,rfl,h2⟩:=h;exact⟨_,_,by unfold pO;rw[h1],h2⟩
theorem Wpa.nil{Q:List Dp->Env->Prop}(q:Q [] ρ):Wpa [] ρ Q:=⟨_,_,rfl,q⟩
theorem Wpa.cons{Q:List Dp->Env->Prop}(h:Wp' f ρ fun p ρ1=>Wpa fs ρ1 fun ps ρ2=>Q (p::ps) ρ2):Wpa (f::fs) ρ Q:=by obtain⟨x,ρ1,h1,xs,ρ2,h2,q⟩:=h;exact⟨_,_,by unfold pAs;rw[h1];dsimp only;rw[h2],q⟩
theorem QA(h:Wpa fs ρ fun ps ρ1=>ps.length<=SZ/\Q (.t ps) ρ1):Wp' (pT fs) ρ Q:=by obtain⟨x,ρ1,h1,h2,q⟩:=h;exact⟨_,_,by unfold pT;rw[h1];dsimp only;rw[if_pos h2],q⟩
end
end
def KM(N:Env->Dp->Prop)(R:Dat->Env->Prop):OM->Prop
 |.nx ρ p=>N ρ p
 |.rt d ρ=>R d ρ
def Wc(g:FC)(ρ:Env)(p:Dp)(N:Env->Dp->Prop)(R:Dat->Env->Prop):Prop:=∃o,g ρ p=some o/\KM N R o
section
variable{N:Env->Dp->Prop}{R:Dat->Env->Prop}{ρ ρ':Env}{p:Dp}
theorem Qg{s:FC}{g:FM}{N:Env->Prop}{R:RV->Env->Prop}{B C:Env->Prop}(h:Wc s ρ p (fun ρ1 p1=>Wm g ρ1 p1 N R B C) (fun d ρ1=>R (.val d) ρ1)):Wm (qY s g) ρ p N R B C:=by
 obtain⟨o,h1,h2⟩:=h;cases o with
 |nx ρ1 p1=>obtain⟨o,h3,h4⟩:=h2;exact⟨o,by unfold qY;rw[h1];exact h3,h4⟩
 |rt d ρ1=>exact⟨.ret (.val d) ρ1,by unfold qY;rw[h1],h2⟩
theorem QB(h:N ρ p):Wc cNx ρ p N R:=⟨_,rfl,h⟩
theorem Qh{s u:FC}(h:Wc s ρ p (fun ρ1 p1=>Wc u ρ1 p1 N R) R):Wc (qX s u) ρ p N R:=by
 obtain⟨o,h1,h2⟩:=h;cases o with
 |nx ρ1 p1=>obtain⟨o,h3,h4⟩:=h2;exact⟨o,by unfold qX;rw[h1];exact h3,h4⟩
 |rt d ρ1=>exact⟨.rt d ρ1,by unfold qX;rw[h1],h2⟩
theorem Qs{j:Nat}{t:FT}{a b:FC}(h:Wt t ρ' fun c _=>Wif c (Wc a ρ p N R) (Wc b ρ p N R))(e:see j ρ p=ρ'):Wc (cIf j t a b) ρ p N R:=by
 obtain⟨c,ρ1,h1,h2,h3⟩:=h;cases c with
 |true=>obtain⟨o,h4,h5⟩:=h2 rfl;exact⟨o,by unfold cIf;rw[e,h1];exact h4,h5⟩
 |false=>obtain⟨o,h4,h5⟩:=h3 rfl;exact⟨o,by unfold cIf;rw[e,h1];exact h4,h5⟩
theorem Qo{α:Type}(kK:α->Dat)(bd:FB)(body:FC)(xs:List α)(I:List α->List α->Env->Dp->Prop)(h0:I [] xs ρ p)
  (hs:∀l x q ρ p,xs=l++x::q->I l (x::q) ρ p->∃ρ1,bd (kK x) ρ=some ρ1/\Wc body ρ1 p (fun ρ2 p2=>I (l++[x]) q ρ2 p2) R) (he:∀ρ p,I xs [] ρ p->N ρ p):Wc (f_ bd body (xs.map kK)) ρ p N R:=by
 have go:∀(q l:List α) (ρ:Env) (p:Dp),xs=l++q->I l q ρ p->Wc (f_ bd body (q.map kK)) ρ p N R:=fun q=>by
  induction q with
  |nil=>intro l ρ p e i;rw[K4]at e;exact⟨.nx _ _,rfl,he ρ p (e▸i)⟩
  |cons x q ih=>
   intro l ρ p e i;obtain⟨ρ1,h1,o,h2,h3⟩:=hs l x q ρ p e i;cases o with
   |nx ρ2 p2=>obtain⟨o,h4,h5⟩:=ih (l++[x]) ρ2 p2 (by rw[e];simp) h3;exact⟨o,by rw[KA,f_,h1];dsimp only;rw[h2];exact h4,h5⟩
   |rt d ρ2=>exact⟨.rt d ρ2,by rw[KA,f_,h1];dsimp only;rw[h2],h3⟩
 exact go xs [] ρ p rfl h0
theorem xS{α:Type}(kK:α->Dat)(v:α->Dp)(bd:FB)(el:FP)(I:Env->Prop):∀(xs:List α) (AR:List Dp) (ρ:Env),I ρ ->
  (∀x∈xs,∀ρ,I ρ->∃ρ1,bd (kK x) ρ=some ρ1/\Wp' el ρ1 fun q ρ2=>q=v x/\I ρ2)->∃ρ',fB bd el (xs.map kK) ρ AR=some (AR++xs.map v,ρ')/\I ρ'
 |[],AR,ρ,i,_=>⟨ρ,by simp[fB],i⟩
 |x::xs,AR,ρ,i,h=>by obtain⟨ρ1,h1,q,ρ2,h2,rfl,i2⟩:=h x Kz ρ i;obtain⟨ρ3,h3,i3⟩:=xS kK v bd el I xs (AR++[v x]) ρ2 i2 fun y hy=>h y (Kw _ hy);exact⟨ρ3,by rw[KA,fB,h1];dsimp only;rw[h2];dsimp only;rw[h3];simp,i3⟩
theorem P6{α:Type}(kK:α->Dat)(xs:List α)(v:α->Dp)(I:Env->Prop){it:FI}{own:Nat}{bd:FB}{el:FP}{ρ ρ1:Env}{Q:Dp->Env->Prop}(Cp:it ρ=some (xs.map kK,ρ1))(hl:xs.length<=SZ)(h0:I (ρ1++Dk own .un))
  (hs:∀x∈xs,∀ρ,I ρ->∃ρ1,bd (kK x) ρ=some ρ1/\Wp' el ρ1 fun q ρ2=>q=v x/\I ρ2) (q:∀ρ2,I ρ2->Q (.l (xs.map v)) (ρ2.take ρ1.length)):Wp' (jc it own bd el) ρ Q:=by
 obtain⟨ρ2,h1,i⟩:=xS kK v bd el I xs [] _ h0 hs;exact⟨_,_,by unfold jc;rw[Cp];dsimp only;rw[if_pos (by simpa using hl),h1];rfl,q ρ2 i⟩
end
section
variable{ρ:Env}{P:Dp->Prop}{Q:Dp->Env->Prop}
theorem P4{f:List Dat->Option Dp}{as:List FE}(h:Was as ρ fun xs ρ1=>∃ds p ρ2,f ds=some p/\Q p ρ2/\tks ρ1 xs=some (ds,ρ2)):Wp' (kr f as) ρ Q:=by obtain⟨xs,ρ1,h1,ds,p,ρ2,h2,q,h3⟩:=h;exact⟨_,_,by unfold kr;rw[h1];dsimp only;rw[h3];dsimp only;rw[h2],q⟩
end
end Dm
namespace Fl
structure Tie where
 m:Int
 a:Int
 b:Int
deriving Inhabited
end Fl
namespace Dm
section
variable{ps:List Dp}{P:Dp->Prop}{ρ:Env}{j:Nat}
def Wh(g:FQ)(ρ:Env)(p:Dp)(P:Dp->Prop):Prop:=∃q,g ρ p=some q/\P q
theorem QG{f:FE}{bd:FB}{body:FC}{ρ ρ':Env}{p:Dp}{m:Int}{N:Env->Dp->Prop}{R:Dat->Env->Prop}(h:We f ρ' fun v _=>v=.val (.int m))(e:see j ρ p=ρ')(hm:m<=BIG/\-BIG<=m)(k:Wc (f_ bd body (ups 0 m.toNat)) ρ p N R):Wc (mE j f bd body) ρ p N R:=by obtain⟨v,ρ1,e1,rfl⟩:=h;rw[<- e]at e1;obtain⟨o,e2,k⟩:=k;exact⟨o,by unfold mE;rw[e1];dsimp only;rw[if_pos hm];exact e2,k⟩
theorem tE{f:List Dat->Option Dp}{ds:List Dat}{xs:List Dat}(h:f ds=some (.l ps))(e:Dp.bR ps=xs):je f ds=some (.new (.lst xs)):=by unfold je;rw[h,<- e]
theorem QI{f:FP}{g:FQ}(h:Wp' f ρ fun p ρ1=>owK ρ ρ1=true/\∃ρ3,ρ1.set j .un=ρ3/\Wh g ρ3 p P)(h0:j≠0):Wq (gE j f g) ρ P:=by obtain⟨p,ρ1,h1,h2,ρ3,rfl,q,h3,h4⟩:=h;exact⟨q,by unfold gE;rw[if_neg h0,h1];dsimp only;rw[if_pos h2];exact h3,h4⟩
theorem Qp{b:Nat}{fk:FE}{kss:List (List Int)}(hk:keysOf (fX fk) (Dp.bR ps)=some kss)(nd:kss.Nodup)(hl:ps.length<=b)(q:P (.l (aZ (ltP (fX fk)) ps))):Wh (gF b fk) ρ (.l ps) P:=
 ⟨_,by unfold gF;dsimp only;rw[if_pos hl,hk];dsimp only;rw[if_pos nd],q⟩
theorem Ql{j a b:Nat}{i r e:FE}{t:FT}{ρ ρ' ρ1 ρ2 ρ3:Env}{rows items:List Dp}{k:Int}{m:Nat}{d w:Dat}{N:Env->Dp->Prop}{R:Dat->Env->Prop}(h1:We i ρ' fun v _=>v=.val (.int k))(e1:see j ρ (.l rows)=ρ')(hm:ixN rows.length k=some m)(hr:rows[m]?=some (.t [.s d,.l items]))
  (ht:Wt t ρ1 fun c _=>c=false) (he:We e ρ2 fun v _=>v=.val w) (q:N ρ3 (.l (rows.set m (.t [.s d,.l (items++[.s w])])))) (e2:see j ((ρ.set a (.sh d)).set b (.sh (.lst (Dp.bR items)))) (.l rows)=ρ1) (e3:(ρ.set a (.sh d)).set b .un=ρ3) (e4:see j ρ3 (.l rows)=ρ2)
  (hb:cQ w=false) (hz:items.length<SZ) (Ii:¬(a=0\/a=j\/b=0\/b=j\/a=b)):Wc (rB j a b i t r e) ρ (.l rows) N R:=by
 obtain⟨v,_,g1,rfl⟩:=h1;obtain⟨c,_,g2,rfl⟩:=ht;obtain⟨v,_,g3,rfl⟩:=he;subst e3;exact⟨.nx _ _,by unfold rB;rw[if_neg Ii];dsimp only;rw[e1,g1];dsimp only;rw[hm];dsimp only;rw[hr];dsimp only;rw[e2,g2];dsimp only;rw[e4,g3];dsimp only;rw[hb,if_pos hz];rfl,q⟩
theorem QC{gs:FS}{N:Env->Prop}{R:RV->Env->Prop}{B C:Env->Prop}(k:Ws gs ρ N R B C):Wm (p6 gs) ρ (.l ps) N R B C:=k
end
end Dm
namespace P
open Dm
noncomputable def AU:List Dat->Option RV:=fn 1 0
  (sR (iP (e1 (jj isI) (eV 0)) (qI (e1 (jj isB) (eV 0)))))
noncomputable def rF:List Dat->Option RV:=fn 3 0
  (sR (iP (eF AU [(eV 0)]) (jN gLe gLe (eV 1) (eV 0) (eV 2))))
noncomputable def AV:List Dat->Option RV:=fn 1 0
  (sR (eF rF [(eV 0),(eC (.int 1)),(eC (.int 10))]))
noncomputable def xT:List Dat->Option RV:=fn 2 0
  (sR (eF rF [(eV 1),(eC (.int 0)),(e2 iM (eV 0) (eC (.int 1)))]))
noncomputable def rG:List Dat->Option RV:=fn 1 0
  (sR (eF rF [(eV 0),(eC (.int 1)),(eC (.int 6))]))
noncomputable def AW:List Dat->Option RV:=fn 1 0
  (sR (eF rF [(eV 0),(eC (.int 0)),(e2 gv (eC (.int 10)) (eC (.int 30)))]))
noncomputable def AX:List Dat->Option RV:=fn 2 0
  (aI (sIf (tOr (dg (tV (e1 (jj isT) (eV 1)))) (tV (e2 gNe (eB cV [(eV 1)]) (eC (.int 3))))) (sR (eC (.bl false))) sNx)
  (sR (iP (eF AW [(e2 gIx (eV 1) (eC (.int 0)))]) (iP (eF xT [(eV 0),(e2 gIx (eV 1) (eC (.int 1)))]) (eF xT [(eV 0),(e2 gIx (eV 1) (eC (.int 2)))])))))
noncomputable def AY:List Dat->Option RV:=fn 2 0
  (sR (iP (eF AX [(eV 0),(eV 1)]) (e2 gLe (e2 gIx (eV 1) (eC (.int 1))) (e2 gIx (eV 1) (eC (.int 2))))))
noncomputable def AZ:List Dat->Option RV:=fn 1 0
  (sR (eB pA [(cB (iR2 (eC (.int 1)) (eB cV [(eV 0)])) 1 (bN 1) di (e2 gLt (e2 gIx (eV 0) (e2 iM (eV 1) (eC (.int 1)))) (e2 gIx (eV 0) (eV 1))))]))
noncomputable def A0:List Dat->Option RV:=fn 1 0
  (sIf (dg (tV (eF rG [(eV 0)]))) (fun _=>none) sNx)
noncomputable def kE:List Dat->Option Dp:=fnP 2 0
  (qR (pO (aS 0 3 (bT [2,3,4]) (tV (e2 gNe (e2 gIn (eV 3) (eV 1)) (e2 gIn (eV 4) (eV 1)))) (eV 2))))
noncomputable def xU:List Dat->Option RV:=je kE
noncomputable def tF:List Dat->Option RV:=fn 3 0
  (sR (aS 0 1 (bN 3) di (eIf (tV (e2 gEq (eV 3) (e2 gIx (eV 0) (eV 2)))) (e2 gIx (eV 0) (eV 1)) (eV 3))))
noncomputable def xV:FS:=
  (sIf (tV (e2 gNe (e2 gIx (eV 4) (eV 1)) (e2 gIx (eV 4) (eV 2)))) (sR (e2 bO (eV 3) (eC (.int 1)))) sNx)
noncomputable def p9:List Dat->Option RV:=fn 3 2
  (aI (gh (iEn (eV 0)) (bT [3,4])
  xV)
  (sR (eC (.int 0))))
noncomputable def xW:FS:=
  (aI (sA 8 (eF p9 [(eV 3),(eV 6),(eV 7)]))
  (aI (sIf (tV (e2 gGt (eV 8) (eC (.int 0)))) (qJ 3 (e2 iM (eV 8) (eC (.int 1))) (eF tF [(e2 gIx (eV 3) (e2 iM (eV 8) (eC (.int 1)))),(eV 6),(eV 7)])) sNx)
  (nB 4 (eV 8))))
noncomputable def mF:List Dat->Option RV:=fn 3 6
  (aI (sE (eF A0 [(eV 2)]))
  (aI (sA 3 (cB (iR1 (eV 2)) 1 (bN 9) di (eB lZ [(eV 0)])))
  (aI (sA 4 (dI []))
  (aI (gh (uI (eV 1)) (bT [5,6,7])
  xW)
  (sR (e1 j0 (eV 4)))))))
noncomputable def tG:List Dat->Option RV:=fn 2 0
  (aI (sIf (tOr (dg (tV (eF AV [(eV 0)]))) (tOr (dg (tV (e1 (jj isL) (eV 1)))) (tV (e2 gGt (eB cV [(eV 1)]) (eC (.int 60)))))) (sR (eC (.bl false))) sNx)
  (aI (sIf (dg (tV (eB pA [(aS 1 1 (bN 2) di (eF AY [(eV 0),(eV 2)]))]))) (sR (eC (.bl false))) sNx)
  (sR (eF AZ [(aS 1 1 (bN 2) di (e2 gIx (eV 2) (eC (.int 0))))]))))
noncomputable def kF:List Dat->Option RV:=fn 2 0
  (sR (aS 0 1 (bN 2) (tV (e2 gGe (e2 gIx (eV 2) (eC (.int 0))) (eV 1))) (eV 2)))
noncomputable def tH:List Dat->Option RV:=fn 1 0
  (aI (sIf (tOr (dg (tV (e1 (jj isT) (eV 0)))) (tV (e2 gNe (eB cV [(eV 0)]) (eC (.int 3))))) (sR (eC (.bl false))) sNx)
  (aI (sIf (tOr (dg (tV (eF rG [(e2 gIx (eV 0) (eC (.int 1)))]))) (dg (tV (eF tG [(e2 gIx (eV 0) (eC (.int 0))),(e2 gIx (eV 0) (eC (.int 2)))])))) (sR (eC (.bl false))) sNx)
  (sR (e2 iR (eC (.int 0)) (eF mF [(e2 gIx (eV 0) (eC (.int 0))),(e2 gIx (eV 0) (eC (.int 2))),(e2 gIx (eV 0) (eC (.int 1)))])))))
noncomputable def p_:List Dat->Option RV:=fn 1 0
  (sIf (dg (tV (eF tH [(eV 0)]))) (fun _=>none) sNx)
noncomputable def qc:List Dat->Option RV:=fn 3 1
  (aI (sA 3 (eF mF [(eV 0),(eV 1),(eV 2)]))
  (sR (eN [(eV 0),(eV 2),(cB (z5 (eV 1) (eV 3)) 2 (bT [4,5]) (tV (e2 gGt (eV 5) (eC (.int 0)))) (eV 4))])))
noncomputable def xX:FS:=
  (aI (sA 5 (aS 1 1 (bN 7) (tV (e2 gLe (e2 gIx (eV 7) (eC (.int 2))) (eV 4))) (eV 7)))
  (aI (sA 6 (e2 bO (eV 3) (aS 3 1 (bN 7) di (e2 ku (eV 7) (eN [(eV 4)])))))
  (sA 3 (aS 6 1 (bN 7) (tV (e2 gLt (eB cV [(eF xU [(eV 5),(eV 7)])]) (eV 2))) (eV 7)))))
noncomputable def mG:List Dat->Option RV:=fn 3 4
  (aI (sA 3 (dI [(eN [])]))
  (aI (gh (iR2 (eC (.int 1)) (eV 0)) (bN 4)
  xX)
  (sR (aS 3 1 (bN 7) (tV (e2 gGt (eB cV [(eV 7)]) (eC (.int 0)))) (eV 7)))))
noncomputable def cK:List Dat->Option Dp:=fnP 2 2
  (nW (sE (eF p_ [(eV 0)]))
  (nW (sA 2 (eF kF [(e2 gIx (eV 0) (eC (.int 2))),(eV 1)]))
  (gE 3 (jc (iS (eF mG [(e2 gIx (eV 0) (eC (.int 0))),(eV 2),(e2 gIx (eV 0) (eC (.int 1)))])) 1 (bN 4) (pT [(pO (eV 4)),(kr kE [(eV 2),(eV 4)])]))
  (gF 100000 (eN [(eB cV [(e2 gIx (eV 0) (eC (.int 1)))]),(e2 gIx (eV 0) (eC (.int 0)))])))))
noncomputable def mH:List Dat->Option RV:=je cK
noncomputable def xY:FS:=
  (aI (sA 3 (e2 fV (e2 bO (e2 bO (e2 gk (eV 3) (eC (.int 48271))) (e2 gk (eC (.int 7919)) (eV 5))) (eC (.int 3))) (eC (.int 2147483629))))
  (aI (sA 3 (e2 fV (e2 gk (eV 3) (eV 3)) (eC (.int 2147483587))))
  (sA 4 (e2 bO (e2 gk (eV 4) (eC (.int 2147483587))) (e2 fV (e2 bO (e2 gk (eV 3) (eC (.int 69621))) (eV 1)) (eC (.int 2147483587)))))))
noncomputable def jf:List Dat->Option RV:=fn 2 4
  (aI (sA 2 (eC (.int 0)))
  (aI (sIf (tV (e2 gLt (eV 1) (eB cV [(eV 0)]))) (sA 2 (e2 gIx (eV 0) (eV 1))) sNx)
  (aI (sIf (tV (e2 gGe (eV 2) (e2 gv (eC (.int 10)) (eC (.int 18))))) (sR (dI [(e2 fV (eV 2) (e2 h_ (e2 h_ (e2 h_ (e2 h_ (e2 gv (eC (.int 10)) (eC (.int 60))) (e2 gv (eC (.int 10)) (eC (.int 60)))) (e2 gv (eC (.int 10)) (eC (.int 60)))) (e2 gv (eC (.int 10)) (eC (.int 60)))) (e2 gv (eC (.int 10)) (eC (.int 60)))))])) sNx)
  (aI (sA 3 (e2 fV (e2 bO (e2 bO (e2 bO (eV 2) (e2 gk (e2 gk (eC (.int 104729)) (eV 1)) (eV 1))) (e2 gk (eC (.int 7)) (eV 1))) (eC (.int 11))) (eC (.int 2147483647))))
  (aI (sA 4 (eC (.int 0)))
  (aI (gh (iR1 (eC (.int 40))) (bN 5)
  xY)
  (sR (dI [(eV 4)]))))))))
noncomputable def bC:List Dat->Option (RV×Dat):=fnM 2 1
  (aI (sA 2 (e2 fV (e2 gIx (eV 0) (eC (.int 0))) (eV 1)))
  (aI (qJ 0 (eC (.int 0)) (e2 uy (e2 gIx (eV 0) (eC (.int 0))) (eV 1)))
  (sR (eV 2))))
noncomputable def qd:List Dat->Option (RV×Dat):=fnM 1 0
  (sR (e2 gIx (dI [(eC (.int 1)),(eC (.int 2)),(eC (.int 3)),(eC (.int 4)),(eC (.int 5)),(eC (.int 6)),(eC (.int 4)),(eC (.int 10))]) (eFm bC 0 [(eC (.int 8))])))
noncomputable def xZ:FS:=
  (aI (sA 11 (eFm bC 0 [(eV 1)]))
  (aI (sA 12 (eFm bC 0 [(eV 1)]))
  (aI (sIf (tV (e2 gEq (eV 7) (eC (.int 1)))) (sA 12 (e2 fV (e2 bO (eV 11) (eC (.int 1))) (eV 1))) sNx)
  (aI (sIf (tV (e2 gEq (eV 7) (eC (.int 2)))) (sA 12 (e2 fV (e2 fV (e2 bO (e2 bO (eV 11) (e2 fV (eV 12) (eC (.int 2)))) (eC (.int 1))) (eB i9 [(eV 1),(eC (.int 3))])) (eV 1))) sNx)
  (aI (nB 9 (eN [(eV 8),(eB i9 [(eV 11),(eV 12)]),(eB i_ [(eV 11),(eV 12)])]))
  (sA 8 (e2 bO (e2 bO (eV 8) (eC (.int 1))) (e2 gk (eFm bC 0 [(eV 5)]) (eV 6)))))))))
noncomputable def qe:List Dat->Option (RV×Dat):=fnM 3 10
  (aI (sA 3 (eFm bC 0 [(e2 bO (eV 2) (eC (.int 1)))]))
  (aI (sA 4 (eFm bC 0 [(eC (.int 4))]))
  (aI (sA 5 (e2 gIx (dI [(eC (.int 1)),(eC (.int 3)),(e2 gv (eC (.int 10)) (eC (.int 6))),(eC (.int 1000))]) (eV 4)))
  (aI (sA 6 (e2 gIx (dI [(eC (.int 1)),(e2 gv (eC (.int 10)) (eC (.int 25)))]) (eB uz [(e2 gEq (eV 4) (eC (.int 3)))])))
  (aI (sA 7 (eFm bC 0 [(eC (.int 4))]))
  (aI (sA 8 (e2 gk (eFm bC 0 [(eV 5)]) (eV 6)))
  (aI (sA 9 (dI []))
  (aI (gh (iR1 (eV 3)) (bN 10)
  xZ)
  (sR (eV 9))))))))))
noncomputable def mJ:List Dat->Option (RV×Dat):=fnM 2 1
  (aI (sIf (tV (e2 gEq (eV 1) (dI []))) (sR (eFm bC 0 [(eC (.int 3))])) sNx)
  (aI (sA 2 (e2 gIx (e2 gIx (eV 1) (eFm bC 0 [(eB cV [(eV 1)])])) (eC (.int 0))))
  (sR (e2 gIx (dI [(eC (.int 0)),(eV 2),(e2 bO (eV 2) (eC (.int 1))),(eB i_ [(eC (.int 0)),(e2 iM (eV 2) (eC (.int 1)))]),(e2 bO (e2 gIx (e2 gIx (eV 1) (e1 zz (eC (.int 1)))) (eC (.int 0))) (eC (.int 1))),(eV 2)]) (eFm bC 0 [(eC (.int 6))])))))
noncomputable def kG:List Dat->Option RV:=fn 2 0
  (sR (aS 0 1 (bN 2) (tV (e2 gGe (e2 gIx (eV 2) (eC (.int 0))) (eV 1))) (eV 2)))
noncomputable def x6:List Dat->Option RV:=fn 1 0
  (sR (iP (e1 (jj isI) (eV 0)) (qI (e1 (jj isB) (eV 0)))))
noncomputable def kH:List Dat->Option RV:=fn 1 0
  (sR (eB pA [(aS 0 1 (bN 1) di (eF x6 [(eV 1)]))]))
noncomputable def tK:List Dat->Option RV:=fn 2 0
  (sR (aS 0 1 (bN 2) (tV (e2 gNe (e2 gIn (e2 gIx (eV 2) (eC (.int 1))) (eV 1)) (e2 gIn (e2 gIx (eV 2) (eC (.int 2))) (eV 1)))) (e2 gIx (eV 2) (eC (.int 0)))))
noncomputable def x8:FS:=
  (sA 1 (e2 bO (eV 1) (aS 1 1 (bN 3) di (e2 ku (eV 3) (eN [(eV 2)])))))
noncomputable def tL:List Dat->Option RV:=fn 1 2
  (aI (sA 1 (dI [(eN [])]))
  (aI (gh (iR2 (eC (.int 1)) (eV 0)) (bN 2)
  x8)
  (sR (eSl (eV 1) (some (eC (.int 1))) none))))
noncomputable def x9:FS:=
  (aI (sA 5 (eF tK [(eV 2),(eV 4)]))
  (sIf (tV (e2 gLt (eB cV [(eV 5)]) (eV 1))) (nB 3 (eN [(eB cV [(eV 5)]),(eV 4),(eV 5)])) sNx))
noncomputable def kI:List Dat->Option RV:=fn 3 3
  (aI (sA 3 (dI []))
  (aI (gh (iS (eF tL [(eV 0)])) (bN 4)
  x9)
  (sR (cB (iS (eB (fR pY) [(eV 3)])) 3 (bT [6,7,8]) di (eN [(eV 7),(eV 8)])))))
noncomputable def x_:FS:=
  (aI (sA 6 (eFm bC 0 [(eV 1)]))
  (aI (sA 7 (e2 fV (e2 bO (e2 bO (eV 6) (eC (.int 1))) (eFm bC 0 [(e2 iM (eV 1) (eC (.int 1)))])) (eV 1)))
  (aI (nB 3 (eN [(eV 4),(eB i9 [(eV 6),(eV 7)]),(eB i_ [(eV 6),(eV 7)])]))
  (sA 4 (e2 bO (e2 bO (eV 4) (eC (.int 1))) (eFm bC 0 [(eC (.int 3))]))))))
noncomputable def qf:List Dat->Option (RV×Dat):=fnM 3 5
  (aI (sA 3 (dI []))
  (aI (sA 4 (eFm bC 0 [(eC (.int 9))]))
  (aI (gh (iR1 (eV 2)) (bN 5)
  x_)
  (sR (eV 3)))))
noncomputable def qg:List Dat->Option (RV×Dat):=fnM 1 2
  (aI (sA 1 (eF qc [(eC (.int 10)),(eFm qf 0 [(eC (.int 10)),(e2 bO (eC (.int 40)) (eFm bC 0 [(eC (.int 21))]))]),(eC (.int 6))]))
  (aI (sA 2 (e2 gIx (e2 gIx (e2 gIx (eV 1) (eC (.int 2))) (eFm bC 0 [(eB cV [(e2 gIx (eV 1) (eC (.int 2)))])])) (eC (.int 0))))
  (sR (e2 gEq (eF mH [(eV 1),(eV 2)]) (eF kI [(eC (.int 10)),(eC (.int 6)),(eF kG [(e2 gIx (eV 1) (eC (.int 2))),(eV 2)])])))))
noncomputable def ya:FC:=
  (qX (rB 9 11 12 (eV 10) (tOr (dg (tV (e1 (jj isL) (eV 12)))) (tOr (dg (tV (eF kH [(eV 12)]))) (dg (tV (eF kH [(eV 11)]))))) (eC (.bl false)) (eC (.int 0)))
  (cIf 9 (tV (e2 gNe (eSl (eV 9) (some (e2 bO (eV 10) (eC (.int 1)))) none) (eSl (eV 8) (some (e2 bO (eV 10) (eC (.int 1)))) none))) (cRt 9 (eC (.bl false))) cNx))
noncomputable def rH:FS:=
  (aI (sA 8 (eF kI [(eV 3),(eV 4),(eF kG [(eV 6),(eV 7)])]))
  (mz 9 cK [(eV 5),(eV 7)]
  (mIf 9 (tOr (dg (tV (e1 (jj isL) (eV 9)))) (tV (e2 gNe (eV 9) (eV 8)))) (sR (eC (.bl false)))
  (qY (mE 9 (eB cV [(eV 9)]) (bN 10)
  ya)
  (p6
  (sIf (tV (e2 gNe (eF mH ([(eV 5)]++[(eV 7)])) (eV 8))) (sR (eC (.bl false))) sNx))))))
noncomputable def rJ:FS:=
  (aI (sA 1 (eF jf [(eV 0),(eV 2)]))
  (aI (sA 3 (eFm qd 1 []))
  (aI (sA 4 (e2 bO (eC (.int 1)) (eFm bC 1 [(eC (.int 6))])))
  (aI (sA 5 (eF qc [(eV 3),(eFn qe (eF jf [(eV 0),(e2 bO (eV 2) (eC (.int 1)))]) [(eV 3),(e2 gIx (dI [(eC (.int 16)),(eC (.int 8))]) (eB uz [(e2 gGt (eV 3) (eC (.int 6)))]))]),(eV 4)]))
  (aI (sA 6 (eB pq [(e2 gIx (eV 5) (eC (.int 2)))]))
  (aI (sA 1 (eF jf [(eV 0),(e2 bO (eV 2) (eC (.int 2)))]))
  (aI (gh (iS (dI [(eC (.int 0)),(eFm mJ 1 [(eV 6)]),(eFm mJ 1 [(eV 6)])])) (bN 7)
  rH)
  (sIf (tOr (tV (e2 gNe (eF (fun ds=>mH (ds++[.int 0])) [(eV 5)]) (eF kI [(eV 3),(eV 4),(eV 6)]))) (tV (e2 gNe (eV 5) (eN [(eV 3),(eV 4),(eV 6)])))) (sR (eC (.bl false))) sNx))))))))
noncomputable def mK:List Dat->Option RV:=fn 1 12
  (aI (sA 1 (eF jf [(dI [(eB mh [(eV 0)])]),(eC (.int 0))]))
  (aI (sIf (lg (tV (e2 gEq (eFm bC 1 [(eC (.int 8))]) (eC (.int 7)))) (dg (tV (eFm qg 1 [])))) (sR (eC (.bl false))) sNx)
  (aI (gh (iRs (eC (.int 0)) (eB i_ [(eC (.int 1)),(eB i9 [(eB cV [(eV 0)]),(eC (.int 9))])]) (eC (.int 3))) (bN 2)
  rJ)
  (sR (eC (.bl true))))))
end P
local macro_rules|`(tactic|trivial)=>`(tactic|first | (dsimp only[List.set];first | done | rfl) | rfl)
namespace P
open Dm Fl
section
variable{Q:Val->Env->Prop}{r:List Tie}{o p:Option Dat}{key:Dat->Option (List Int)}{n:Nat}{k:Int}{f:List Int->Dat}{α:Type}{j:Nat}{ms:List Int}{K:RV->Prop}{ρ:Env}{x m:Int}{it:FI}{d:Dat}{a:FE}
noncomputable def bD(t:Tie):Dat:=.tup [.int t.m,.int t.a,.int t.b]
noncomputable def aK(r:List Tie):Dat:=.lst (r.map bD)
theorem Fw(h0:0<=k)(h1:k<n):ixN n k=some k.toNat:=by unfold ixN;rw[if_pos h0,if_pos h1]
noncomputable def tupI(S:List Int):Dat:=.tup (S.map Dat.int)
noncomputable def ovr(S:List Int)(t:Tie):Bool:=decide (t.a∈S) != decide (t.b∈S)
noncomputable def bw(r:List Tie)(S:List Int):List Int:=(r.filter (ovr S)).map (·.m)
theorem cj(x n:Int)(h:1<=n):0<=x % n/\x % n<n:=⟨Int.emod_nonneg x (by lia),Int.emod_lt_of_pos x (by lia)⟩
noncomputable def at'(ns:List Int)(i:Int):Int:=ns.getD i.toNat 0
theorem Fx(ns:List Int)(i:Int)(h0:0<=i)(h1:i<ns.length):gIx (.lst (ns.map Dat.int)) (.int i)=some (.val (.int (at' ns i))):=by show (atI (ns.map Dat.int) i).map RV.val=_;rw[Dm.jD Dat.int ns i h0 h1];unfold at';rw[Lu,KG (by lia)];rfl
theorem Ik{ns:List Int}{i:Int}(h0:0<=i)(h1:i<ns.length)(k:K (.val (.int (at' ns i))))(ho:o=some (.lst (ns.map Dat.int)))(hp:p=some (.int i)):Wg2 gIx o p K:=⟨_,_,_,ho,hp,Fx ns i h0 h1,k⟩
theorem Pe{i j:Int}(k:K (.val (.int (i*j))))(ho:o=some (.int i))(hp:p=some (.int j))(h:i.natAbs.log2<1000000/\j.natAbs.log2<1000000):Wg2 h_ o p K:=⟨_,_,_,ho,hp,by unfold h_;dsimp only;rw[if_pos h],k⟩
noncomputable def aE(x:Int):Dat:=.lst [.int x]
noncomputable abbrev Z60:Int:=1000000000000000000000000000000000000000000000000000000000000
theorem jE(ns:List Int)(k:Int)(h0:0<=k)(h1:k<1000):∃x,jf [.lst (ns.map Dat.int),.int k]=some (.new (aE x)):=by
 suffices h:Wr (jf [.lst (ns.map Dat.int),.int k]) fun v=>∃x,v=.new (aE x) by obtain⟨v,h1,c,rfl⟩:=h;exact⟨c,h1⟩
 unfold jf
 (refine Dm.Oo ?_ rfl rfl;and_intros)
 refine N9 (Ob (N8 (Od ?_ (by trivial))) (by decide));refine Ow (fun ρ=>∃c:Int,ρ=[.sh (.lst (ns.map Dat.int)),.sh (.int k),.sh (.int c),.un,.un,.un]) ?_ ?_
 ·refine Ox (Of (M_ (K_ rfl (Oj (m_ (K_ rfl (L_ (ON (kK:=Dat.int) ?_ rfl))))))));refine OT ?_ rfl rfl;refine Oa ?_;refine⟨fun h=>?_,fun h=>?_⟩
  ·have h:=of_decide_eq_true h;refine Ob ?_ (by decide);refine M_ (K_ rfl (K_ rfl ?_));refine Ik h0 (by simpa using h) ?_ rfl rfl;refine Od ?_ (by trivial);exact⟨_,rfl⟩
  ·refine Ou ?_;exact⟨_,rfl⟩
 rintro ρ ⟨c,rfl⟩;refine N9 (Ox (Of (M_ (K_ rfl (M_ (N8 (N8 (OX (z:=1000000000000000000) ?_ rfl rfl (by decide) (by decide)))))))));refine Pq (Oa ?_) rfl rfl;have p60:∀{K:RV->Prop} {o p:Option Dat},K (.val (.int Z60))->o=some (.int 10)->p=some (.int 60)->Wg2 gv o p K:=fun k ho hp=>OX (z:=Z60) k ho hp (by decide) (by decide +kernel);refine⟨fun h=>?_,fun h=>?_⟩
 ·refine Ol (OG (m_ (M_ (K_ rfl ?_))));refine M_ (M_ (M_ (M_ (M_ (N8 (N8 (p60 ?_ rfl rfl)))))));refine M_ (N8 (N8 (p60 ?_ rfl rfl)));refine Pe ?_ rfl rfl (by decide +kernel);refine M_ (N8 (N8 (p60 ?_ rfl rfl)));refine Pe ?_ rfl rfl (by decide +kernel);refine M_ (N8 (N8 (p60 ?_ rfl rfl)));refine Pe ?_ rfl rfl (by decide +kernel);refine M_ (N8 (N8 (p60 ?_ rfl rfl)));refine Pe ?_ rfl rfl (by decide +kernel);refine Oz ?_ rfl rfl (by decide +kernel);refine L_ (Om ?_ rfl rfl (by exact Ld rfl));exact⟨_,rfl⟩
 ·refine Ou ?_;refine Ow (fun ρ=>∃x:Int,(0<=x/\x<2147483647)/\ρ=[.sh (.lst (ns.map Dat.int)),.sh (.int k),.sh (.int c),.sh (.int x),.un,.un]) ?_ ?_
  ·refine Ob ?_ (by decide);refine M_ (M_ (M_ (M_ (K_ rfl (M_ (M_ (N8 (K_ rfl (OC ?_ rfl rfl (by first | exact Or.inl (by decide) | exact Or.inr (by decide)))))))))));refine K_ rfl (OC ?_ rfl rfl ?_);refine Oe ?_ rfl rfl;refine M_ (N8 (K_ rfl (OC ?_ rfl rfl (by first | exact Or.inl (by decide) | exact Or.inr (by decide)))));refine Oe ?_ rfl rfl;refine N8 (Oe ?_ rfl rfl);refine N8 (Oz ?_ rfl rfl (by decide));refine Od ?_ (by trivial)
   ·exact⟨_,cj _ _ (by decide),rfl⟩
   ·exact .inr (by unfold B64;lia)
  rintro ρ ⟨x,hx,rfl⟩;refine N9 (Ob (N8 (Od ?_ (by trivial))) (by decide));refine N9 (OE (Pc (N8 (cG.mk ⟨?_,by decide,by decide⟩))));refine OI (fun i:Nat=>Dat.int (0+(i:Nat))) _ _ (KY 40) _ _ _ _ _ (fun p q ρ=>∃(x f:Int) (c5:Cell),(0<=x/\x<2147483647)/\ρ=[.sh (.lst (ns.map Dat.int)),.sh (.int k),.sh (.int c),.sh (.int x),.sh (.int f),c5]) ⟨_,_,_,hx,rfl⟩ ?_ ?_
  ·rintro p i q ρ e ⟨x,f,c5,hx,rfl⟩;refine Dm.cJ rfl (by trivial) ?_;unfold xY;refine Ow (fun ρ=>∃y:Int,(0<=y/\y<2147483647)/\ρ=[.sh (.lst (ns.map Dat.int)),.sh (.int k),.sh (.int c),.sh (.int y),.sh (.int f),.sh (.int (0+(i:Nat)))]) ?_ ?_
   ·refine Ob ?_ (by decide);refine M_ (M_ (M_ (M_ (K_ rfl (N8 (OC ?_ rfl rfl (by first | exact Or.inl (by decide) | exact Or.inr (by decide))))))));refine M_ (N8 (K_ rfl (OC ?_ rfl rfl (by first | exact Or.inl (by decide) | exact Or.inr (by decide)))));refine Oe ?_ rfl rfl;refine N8 (Oe ?_ rfl rfl);refine N8 (Oz ?_ rfl rfl (by decide));refine Od ?_ (by trivial);exact⟨_,by have:=cj (x*48271+7919*(0+((i:Nat):Int))+3) 2147483629 (by decide);lia,rfl⟩
   rintro ρ ⟨y,hy,rfl⟩;refine Ow (fun ρ=>∃y:Int,(0<=y/\y<2147483647)/\ρ=[.sh (.lst (ns.map Dat.int)),.sh (.int k),.sh (.int c),.sh (.int y),.sh (.int f),.sh (.int (0+(i:Nat)))]) ?_ ?_
   ·refine Ob ?_ (by decide);refine M_ (M_ (K_ rfl (K_ rfl (OC ?_ rfl rfl ?_))));refine N8 (Oz ?_ rfl rfl (by decide));refine Od ?_ (by trivial)
    ·exact⟨_,by have:=cj (y*y) 2147483587 (by decide);lia,rfl⟩
    ·exact .inl (by unfold B64;lia)
   rintro ρ ⟨z,hz,rfl⟩;refine Ob ?_ (by decide);refine M_ (M_ (K_ rfl (N8 (OC ?_ rfl rfl (by first | exact Or.inl (by decide) | exact Or.inr (by decide))))));refine M_ (M_ (M_ (K_ rfl (N8 (OC ?_ rfl rfl (by first | exact Or.inl (by decide) | exact Or.inr (by decide)))))));refine K_ rfl (Oe ?_ rfl rfl);refine N8 (Oz ?_ rfl rfl (by decide));refine Oe ?_ rfl rfl;refine Od ?_ (by trivial);exact⟨_,_,_,hz,rfl⟩
  ·rintro ρ ⟨x,f,c5,hx,rfl⟩;refine Ol (OG (m_ (K_ rfl (L_ (Om ?_ rfl (by trivial) (by exact Ld rfl))))));refine O5 ?_;exact⟨_,rfl⟩
theorem A4(x m:Int)(h0:0<m)(h1:m<gu):bC [aE x,.int m]=some (.val (.int (x % m)),aE (x / m)):=by
 suffices h:WrM (bC [aE x,.int m]) fun v d=>v=.val (.int (x % m))/\d=aE (x / m) by obtain⟨v,d,h1,rfl,rfl⟩:=h;exact h1
 unfold bC;refine OW ?_ rfl rfl;and_intros;unfold aE;refine N9 (Ob ?_ (by decide));refine M_ (M_ (OB rfl (N8 (N_ ?_ rfl rfl rfl))));refine K_ rfl (Oz ?_ rfl rfl ?_);refine Od ?_ (by trivial);refine N9 ?_
 ·refine P1 ?_;refine M_ (M_ (OB rfl (N8 (N_ ?_ rfl rfl rfl))));refine K_ rfl (Pk ?_ rfl rfl ?_);refine Oh (xP rfl (N8 (cG.mk ?_)))
  ·refine⟨_,0,_,rfl,rfl,rfl,?_⟩;refine Ol (K_ rfl (OL ?_));exact⟨_,rfl,rfl,rfl⟩
  ·exact⟨h0,h1⟩
 ·exact h0
def Wtk(j:Nat)(m:Int)(ρ1:Env)(Q:Val->Env->Prop):Prop:=∃x ρ3,Q (.val (.int (x % m))) ρ3/\ρ1[j]?=some (.ow (aE x))/\ρ1.set j (.ow (aE (x / m)))=ρ3/\0<m/\m<gu
theorem jF{ρ1 ρ3:Env}(q:Q (.val (.int (x % m))) ρ3)(h2:ρ1[j]?=some (.ow (aE x)))(hn:ρ1.set j (.ow (aE (x / m)))=ρ3)(h0:0<m)(h1:m<gu):Wtk j m ρ1 Q:=⟨_,_,q,h2,hn,h0,h1⟩
theorem O7{d0:Dat}(h:We a ρ fun v ρ1=>cG v fun m=>Wtk j m ρ1 Q)(h0:ρ[j]?=some (.ow d0)):We (eFm bC j [a]) ρ Q:=by refine O8 (m_ ?_) h0;obtain⟨v,ρ1,e1,m,rfl,x,ρ3,q,e2,e3,m0,m1⟩:=h;exact⟨_,_,e1,L_ (O9 (A4 x m m0 m1) q e2 rfl e3)⟩
theorem Ov(ha:a ρ=some (.val (.int m),ρ))(h0:0<m)(h1:m<gu)(hj:ρ[j]?=some (.ow (aE x)))(k:∀t x':Int,0<=t->t<m->∀ρ3,ρ.set j (.ow (aE x'))=ρ3->Q (.val (.int t)) ρ3):We (eFm bC j [a]) ρ Q:=
 O7 ⟨_,_,ha,m,rfl,jF (k _ _ (cj x m (by lia)).1 (cj x m (by lia)).2 _ rfl) hj rfl h0 h1⟩ hj
def Good(n:Int):Int->List Tie->Prop
 |_,[]=>True
 |lo,t::r=>lo<=t.m/\0<=t.a/\t.a<=t.b/\t.b<n/\Good n (t.m+1) r
theorem Good.lo{n:Int}:∀{r:List Tie} {lo:Int},Good n lo r->∀t∈r,lo<=t.m
 |[],_,_,t,ht=>by cases ht
 |u::r,lo,h,t,ht=>by
  obtain⟨h1,h2,h3,h4,h5⟩:=h;rcases KD.mp ht with rfl | ht
  ·exact h1
  ·have:=Good.lo h5 t ht;lia
theorem Good.snoc{n:Int}:∀{r:List Tie} {lo hi:Int} {t:Tie},Good n lo r->(∀u∈r,u.m<hi)->lo<=hi->hi=t.m->0<=t.a->t.a<=t.b->t.b<n->Good n lo (r++[t])
 |[],_,_,_,_,_,h,e,h1,h2,h3=>⟨by lia,h1,h2,h3,trivial⟩
 |u::r,lo,hi,t,h,hu,hl,e,h1,h2,h3=>by obtain⟨k1,k2,k3,k4,k5⟩:=h;exact⟨k1,k2,k3,k4,Good.snoc k5 (fun v hv=>hu v (Kw _ hv)) (by have:=hu u Kz;lia) e h1 h2 h3⟩
theorem A5(x:Int):∃(n x':Int),qd [aE x]=some (.val (.int n),aE x')/\1<=n/\n<=10:=by
 suffices h:WrM (qd [aE x]) fun v d=>∃n x':Int,v=.val (.int n)/\d=aE x'/\1<=n/\n<=10 by obtain⟨v,d,h1,n,x',rfl,rfl,h2⟩:=h;exact⟨n,x',h1,h2⟩
 unfold qd;refine OW ?_ rfl rfl;and_intros;refine Ol (M_ ?_);refine OG (m_ (N8 (m_ (N8 (m_ (N8 (m_ (N8 (m_ (N8 (m_ (N8 (m_ (N8 (m_ (N8 (L_ (Om ?_ rfl (by trivial) (by exact Ld rfl)))))))))))))))))));refine Ov (m:=8) rfl (by decide) (by decide) rfl fun t x' h0 h1 ρ3 e=>?_;subst e;have:t=0\/t=1\/t=2\/t=3\/t=4\/t=5\/t=6\/t=7:=by lia
 rcases this with rfl | rfl | rfl | rfl | rfl | rfl | rfl | rfl <;>
 ·refine N_ ?_ rfl rfl rfl;exact⟨_,rfl,_,x',rfl,rfl,by decide,by decide⟩
theorem ix4(a b c d:Int)(x:Int)(h0:0<=x)(h:x<4):gIx (.lst [.int a,.int b,.int c,.int d]) (.int x)=some (.val (.int (if x=0 then a else if x=1 then b else if x=2 then c else d))):=by
 have:x=0\/x=1\/x=2\/x=3:=by lia
 rcases this with rfl | rfl | rfl | rfl<;>rfl
noncomputable abbrev Z28:Int:=10000000000000000000000000000
noncomputable abbrev Z30:Int:=1000000000000000000000000000000
noncomputable def RE(pool:Int)(n most many kind step times way Fy:Int)(r:List Tie)(c10 c11 c12:Cell):Env:=
 [.ow (aE pool),.sh (.int n),.sh (.int most),.sh (.int many),.sh (.int kind),.sh (.int step),.sh (.int times),.sh (.int way),.sh (.int Fy),.ow (aK r),c10,c11,c12]
theorem tM(a b:Int):(if b<a then b else a)<=(if b>a then b else a):=by split<;>split<;>lia
theorem uV(x n most:Int)(n1:1<=n)(n10:n<=10)(m0:0<=most)(m60:most<=60) :
  ∃(r:List Tie) (x':Int),qe [aE x,.int n,.int most]=some (.new (aK r),aE x')/\Good n 0 r/\(r.length:Int)<=most/\∀t∈r,t.m<=Z30:=by
 suffices hh:WrM (qe [aE x,.int n,.int most]) fun v d=>∃(r:List Tie) (x':Int),v=.new (aK r)/\d=aE x'/\Good n 0 r/\(r.length:Int)<=most/\∀t∈r,t.m<=Z30 by obtain⟨v,d,h1,h,x',rfl,rfl,h2⟩:=hh;exact⟨h,x',h1,h2⟩
 unfold qe;refine OW ?_ rfl rfl;and_intros;refine N9 (Ob ?_ (by decide));refine Ov (m:=most+1) rfl (by lia) (by unfold gu;lia) rfl fun many x1 h1 h2 ρ3 e=>?_;subst e;refine Od ?_ (by trivial);refine N9 (Ob ?_ (by decide));refine Ov (m:=4) rfl (by decide) (by decide) rfl fun kind x2 k1 k2 ρ3 e=>?_;subst e;refine Od ?_ (by trivial);refine Ow (fun ρ=>∃step:Int,(1<=step/\step<=1000000/\(kind=3->step<=1000))/\ρ=[.ow (aE x2),.sh (.int n),.sh (.int most),.sh (.int many),.sh (.int kind),.sh (.int step),.un,.un,.un,.un,.un,.un,.un]) ?_ ?_
 ·refine Ob (M_ (OG (m_ (N8 (m_ (N8 (m_ (M_ (N8 (N8 (OX (z:=1000000) ?_ rfl rfl (by decide) (by decide)))))))))))) (by decide);refine m_ (N8 (L_ (Om ?_ rfl rfl (by exact Ld rfl))));refine K_ rfl (N_ ?_ rfl rfl (ix4 1 3 1000000 1000 kind k1 k2));refine Od ?_ (by trivial);refine⟨_,?_,rfl⟩;have:kind=0\/kind=1\/kind=2\/kind=3:=by lia
  rcases this with q | q | q | q<;>rw[q]<;>decide
 rintro ρ ⟨step,hs,rfl⟩;refine Ow (fun ρ=>∃times:Int,(0<=times/\step*times<=Z28)/\ρ=[.ow (aE x2),.sh (.int n),.sh (.int most),.sh (.int many),.sh (.int kind),.sh (.int step),.sh (.int times),.un,.un,.un,.un,.un,.un]) ?_ ?_
 ·refine Ob (M_ (OG (m_ (N8 (m_ (M_ (N8 (N8 (OX (z:=10000000000000000000000000) ?_ rfl rfl (by decide) (by decide)))))))))) (by decide);refine L_ (Om ?_ rfl rfl (by exact Ld rfl));refine Oj (m_ (M_ (K_ rfl (N8 (OV ?_ rfl rfl)))));refine L_ (Py ?_ rfl);by_cases q:kind=3
  ·rw[decide_eq_true q];refine N_ (v:=.int 10000000000000000000000000) ?_ rfl rfl rfl;exact Od ⟨10000000000000000000000000,⟨by decide,by have:=hs.2.2 q;unfold Z28;lia⟩,rfl⟩ (by trivial)
  ·rw[decide_eq_false q];refine N_ (v:=.int 1) ?_ rfl rfl rfl;exact Od ⟨1,⟨by decide,by unfold Z28;lia⟩,rfl⟩ (by trivial)
 rintro ρ ⟨times,⟨ht,hst⟩,rfl⟩;have tb:∀t:Int,0<=t->t<step->t*times<=Z28:=fun t _ t2=>Int.le_trans (Int.mul_le_mul_of_nonneg_right (Int.le_of_lt t2) ht) hst;refine N9 (Ob ?_ (by decide));refine Ov (m:=4) rfl (by decide) (by decide) rfl fun way x3 w1 w2 ρ3 e=>?_;subst e;refine Od ?_ (by trivial);refine Ow (fun ρ=>∃x4 mo:Int,(0<=mo/\mo<=Z28)/\ρ=[.ow (aE x4),.sh (.int n),.sh (.int most),.sh (.int many),.sh (.int kind),.sh (.int step),.sh (.int times),.sh (.int way),.sh (.int mo),.un,.un,.un,.un]) ?_ ?_
 ·refine Ob (M_ ?_) (by decide);refine Ov (m:=step) rfl (by lia) (by unfold gu;lia) rfl fun t x4 t1 t2 ρ3 e=>?_;subst e;refine K_ rfl (OC ?_ rfl rfl (.inl (by unfold B64;lia)));exact Od ⟨_,_,⟨Int.mul_nonneg t1 ht,tb t t1 t2⟩,rfl⟩ (by trivial)
 rintro ρ ⟨x4,mo,hmo,rfl⟩;refine N9 (Ob (OG (L_ (Om ?_ rfl rfl (by decide)))) (by decide));refine Oq ?_ (by trivial);refine N9 (OE (Pc (K_ rfl (cG.mk ⟨?_,by unfold BIG;lia⟩))));refine OI (fun i:Nat=>Dat.int (0+(i:Nat))) _ _ (KY many.toNat) _ _ _ _ _ (fun p q ρ=>∃(x mo:Int) (r:List Tie) (c10 c11 c12:Cell),ρ=RE x n most many kind step times way mo r c10 c11 c12/\Good n 0 r/\r.length=p.length/\(∀u∈r,u.m<mo)/\0<=mo/\mo<=((p.length:Int)+1)*(Z28+1))
  ⟨_,_,[],_,_,_,rfl,trivial,rfl,(fun u hu=>by cases hu),hmo.1,by have:=hmo.2;simp;lia⟩ ?_ ?_
 ·rintro p i q ρ e ⟨x,mo,r,c10,c11,c12,rfl,hg,hl,hu,hm,hM⟩;have lp:p.length<100:=by
   have:(KY many.toNat).length=p.length+(q.length+1):=by rw[e];simp
   rw[Lk]at this;lia
  unfold RE;refine Dm.cJ rfl (by trivial) ?_;unfold xZ;refine N9 (Ob ?_ (by decide));refine Ov (m:=n) rfl (by lia) (by unfold gu;lia) rfl fun one y1 o1 o2 ρ3 e=>?_;subst e;refine Od ?_ (by trivial);refine N9 (Ob ?_ (by decide));refine Ov (m:=n) rfl (by lia) (by unfold gu;lia) rfl fun oth y2 u1 u2 ρ3 e=>?_;subst e;refine Od ?_ (by trivial);refine Ow (fun ρ=>∃o:Int,(0<=o/\o<n)/\ρ=RE y2 n most many kind step times way mo r (.sh (.int (0+(i:Nat)))) (.sh (.int one)) (.sh (.int o))) ?_ ?_
  ·refine Ox (Of (M_ (K_ rfl (N8 (OV (Oa ?_) rfl rfl)))));refine PB (fun _=>?_) fun _=>?_
   ·refine Ob (M_ (M_ (K_ rfl (N8 (Oe (K_ rfl (Oz ?_ rfl rfl (by lia))) rfl rfl))))) (by decide);exact Od ⟨_,cj _ n n1,rfl⟩ (by trivial)
   ·exact Ou ⟨oth,⟨u1,u2⟩,rfl⟩
  rintro ρ ⟨o,⟨q1,q2⟩,rfl⟩;refine Ow (fun ρ=>∃o:Int,(0<=o/\o<n)/\ρ=RE y2 n most many kind step times way mo r (.sh (.int (0+(i:Nat)))) (.sh (.int one)) (.sh (.int o))) ?_ ?_
  ·unfold RE;refine Ox (Of (M_ (K_ rfl (N8 (OV (Oa ?_) rfl rfl)))));refine PB (fun _=>?_) fun _=>?_
   ·refine Ob (M_ (M_ (M_ (M_ (K_ rfl (M_ (K_ rfl (N8 (Oz ?_ rfl rfl (by decide)))))))))) (by decide);refine Oe ?_ rfl rfl;refine N8 (Oe ?_ rfl rfl);refine Oj (m_ (K_ rfl (m_ (N8 (L_ (OY ?_ rfl))))));refine Oz ?_ rfl rfl (by split<;>lia);refine K_ rfl (Oz ?_ rfl rfl (by lia));exact Od ⟨_,cj _ n n1,rfl⟩ (by trivial)
   ·exact Ou ⟨o,⟨q1,q2⟩,rfl⟩
  rintro ρ ⟨o,⟨q1,q2⟩,rfl⟩;unfold RE;refine N9 (O0 (OR (m_ (K_ rfl (m_ (Oj (m_ (K_ rfl (m_ (K_ rfl (L_ (OY ?_ rfl))))))))))) rfl);refine m_ (Oj (m_ (K_ rfl (m_ (K_ rfl (L_ (OU ?_ rfl)))))));refine L_ (Om ?_ rfl rfl (by exact Ld rfl));refine Oh (kD ?_ rfl (by trivial) (by rw[gp];unfold SZ;lia));refine Ob (M_ (M_ (K_ rfl (N8 (Oe ?_ rfl rfl))))) (by decide);refine M_ ?_;refine Ov (m:=step) rfl (by lia) (by unfold gu;lia) rfl fun t x4 t1 t2 ρ3 e=>?_;subst e;refine K_ rfl (OC ?_ rfl rfl (.inl (by unfold B64;lia)));refine Oe ?_ rfl rfl;refine Od ?_ (by trivial);have tn:=Int.mul_nonneg t1 ht;refine⟨x4,mo+1+t*times,r++[⟨mo,(if o<one then o else one),(if o>one then o else one)⟩],.sh (.int (0+(i:Nat))),.sh (.int one),.sh (.int o),?_,?_,by simp[hl],?_,by lia,?_⟩
  ·unfold aK;rw[LS];rfl
  ·refine Good.snoc (hi:=mo) hg hu hm rfl ?_ (tM one o) ?_
   ·show 0<=(if o<one then o else one);split<;>lia
   ·show (if o>one then o else one)<n;split<;>lia
  ·intro u hu';rcases K3.mp hu' with h | h
   ·have:=hu u h;lia
   ·rw[KS.mp h];show mo<_;lia
  ·have:=tb t t1 t2;rw[KL,Me];have e:(((p.length+1:Nat):Int)+1)*(Z28+1)=((p.length:Int)+1)*(Z28+1)+(Z28+1):=by
    rw[Int.natCast_add,Int.add_mul (((p.length:Int))+((1:Nat):Int)) 1,Int.one_mul];rfl
   rw[e]
   lia
 ·rintro ρ ⟨x,mo,r,c10,c11,c12,rfl,hg,hl,hu,hm,hM⟩;unfold RE;refine Ol (OB rfl (Pj ?_ rfl));rw[Lk]at hM hl;refine⟨_,rfl,r,x,rfl,rfl,hg,?_,fun t ht=>?_⟩
  ·rw[hl]
   lia
  ·have h1:=hu t ht;have h2:((many.toNat:Int)+1)*(Z28+1)<=61*(Z28+1):=Int.mul_le_mul_of_nonneg_right (by lia) (by decide);have h3:(61:Int)*(Z28+1)<=Z30:=by decide
   lia
theorem A6{x y:Tie}(h:x.m=y.m/\x.a=y.a/\x.b=y.b):x=y:=by cases x;cases y;simp only[Tie.mk.injEq];exact h
instance Kc:DecidableEq Tie:=fun x y=>decidable_of_iff (x.m=y.m/\x.a=y.a/\x.b=y.b) ⟨A6,fun h=>by rw[h];exact⟨rfl,rfl,rfl⟩⟩
theorem qh(i:Int):AU [.int i]=some (.val (.bl true)):=by
 apply Ot;unfold AU
 (refine Dm.Oo ?_ rfl rfl;and_intros)
 refine Ol (O4 (OQ (K_ rfl (OJ ?_ rfl rfl))));refine Oa (O6 (PY (OQ (K_ rfl (OJ ?_ rfl rfl)))));exact Oa rfl
theorem dQ(i lo hi:Int)(h0:lo<=i)(h1:i<=hi):rF [.int i,.int lo,.int hi]=some (.val (.bl true)):=by unfold rF;simp[fn,sR,iP,eF,eAs,eV,pks,pk,qh,RV.bF,RV.dat,cQ,jN,gLe,h0,h1]
theorem kJ(k:Int)(h0:1<=k)(h1:k<=6):A0 [.int k]=some (.val .non):=by
 have e:rG [.int k]=some (.val (.bl true)):=by
  apply Ot;unfold rG
  (refine Dm.Oo ?_ rfl rfl;and_intros)
  refine Ol (Oc (m_ (K_ rfl (m_ (N8 (m_ (N8 (L_ (Oi (dQ k 1 6 h0 h1) ?_ rfl rfl)))))))));rfl
 apply Ot;unfold A0
 (refine Dm.Oo ?_ rfl rfl;and_intros)
 refine Ox (OA (Of (Oc (m_ (K_ rfl (L_ (Oi e ?_ rfl rfl)))))));exact Oa (OH (Ou rfl))
noncomputable def mgf(f:Int->Int)(a b:Int):Int->Int:=fun x=>if f x=f b then f a else f x
inductive Con(ts:List Tie):Int->Int->Prop
 |refl (x:Int):Con ts x x
 |tie (t:Tie):t∈ts->Con ts t.a t.b
 |symm {x y:Int}:Con ts x y->Con ts y x
 |trans {x y z:Int}:Con ts x y->Con ts y z->Con ts x z
theorem Con.mono{ts us:List Tie}(h:∀t∈ts,t∈us){x y:Int}(c:Con ts x y):Con us x y:=by
 induction c with
 |refl x=>exact .refl x
 |tie t m=>exact .tie t (h t m)
 |symm _ ih=>exact .symm ih
 |trans _ _ i1 i2=>exact .trans i1 i2
def Tells(f:Int->Int)(ts:List Tie):Prop:=∀x y,f x=f y↔Con ts x y
theorem Con.nil{x y:Int}(c:Con [] x y):x=y:=by
 induction c with
 |refl x=>rfl
 |tie t m=>cases m
 |symm _ ih=>exact ih.symm
 |trans _ _ i1 i2=>exact i1.trans i2
theorem tells_nil:Tells (fun x=>x) []:=fun x y=>⟨fun h=>by cases h;exact .refl _,fun c=>c.nil⟩
theorem tells_mgf{f:Int->Int}{ts:List Tie}(h:Tells f ts)(t:Tie)(a b:Int)(Im:(a=t.a/\b=t.b)\/(a=t.b/\b=t.a)):Tells (mgf f a b) (t::ts):=by
 have up:∀{x y},f x=f y->Con (t::ts) x y:=fun e=>Con.mono (fun u m=>Kw _ m) ((h _ _).mp e);have ab:Con (t::ts) a b:=by
  rcases Im with⟨rfl,rfl⟩ | ⟨rfl,rfl⟩
  ·exact .tie t Kz
  ·exact .symm (.tie t Kz)
 intro x y;unfold mgf;constructor
 ·intro e;by_cases hx:f x=f b
  ·rw[if_pos hx]at e;by_cases hy:f y=f b
   ·exact up (hx.trans hy.symm)
   ·rw[if_neg hy]at e;exact .trans (up hx) (.trans (.symm ab) (up e))
  ·rw[if_neg hx]at e;by_cases hy:f y=f b
   ·rw[if_pos hy]at e;exact .trans (up e) (.trans ab (.symm (up hy)))
   ·rw[if_neg hy]at e;exact up e
 ·intro c;have key:∀{x y:Int},Con (t::ts) x y->(if f x=f b then f a else f x)=(if f y=f b then f a else f y):=fun c=>by
   induction c with
   |refl x=>rfl
   |tie u m=>
    rcases KD.mp m with rfl | m
    ·rcases Im with⟨rfl,rfl⟩ | ⟨rfl,rfl⟩
     ·rw[if_pos (rfl:f u.b=f u.b)];split
      ·rfl
      ·rfl
     ·rw[if_pos (rfl:f u.a=f u.a)];split
      ·rfl
      ·rfl
    ·have e:=(h u.a u.b).mpr (.tie u m);rw[e]
   |symm _ ih=>exact ih.symm
   |trans _ _ i1 i2=>exact i1.trans i2
  exact key c
noncomputable def lay(r:List Tie)(ms:List Int)(j:Int):List Tie:=((r.zip ms).filter fun p=>decide (p.2=j)).map (·.1)
theorem iw(t:Tie)(m:Int)(r:List Tie)(ms:List Int)(j:Int):lay (t::r) (m::ms) j=if m=j then t::lay r ms j else lay r ms j:=by unfold lay;rw[Lw,LW];by_cases h:m=j<;>simp[h]
def qi(k:Int)(r:List Tie)(ms:List Int)(t:Tie)(m:Int):Prop:=
 (m=0/\∀j,1<=j->j<=k->Con (lay r ms j) t.a t.b)\/(1<=m/\m<=k/\¬Con (lay r ms m) t.a t.b/\∀j,1<=j->j<m->Con (lay r ms j) t.a t.b)
def bS(k:Int):List Tie->List Int->Prop
 |[],[]=>True
 |t::r,m::ms=>bS k r ms/\qi k r ms t m
 |_,_=>False
theorem qi.uniq{t:Tie}{m m':Int}(h:qi k r ms t m)(h':qi k r ms t m'):m=m':=by
 rcases h with⟨rfl,h⟩ | ⟨h1,h2,h3,h4⟩
 ·rcases h' with⟨rfl,_⟩ | ⟨g1,g2,g3,_⟩
  ·rfl
  ·exact absurd (h m' g1 g2) g3
 ·rcases h' with⟨rfl,h'⟩ | ⟨g1,g2,g3,g4⟩
  ·exact absurd (h' m h1 h2) h3
  ·rcases Int.lt_trichotomy m m' with q | q | q
   ·exact absurd (g4 m h1 q) h3
   ·exact q
   ·exact absurd (h4 m' g1 q) g3
theorem bS.len:∀{r:List Tie} {ms:List Int},bS k r ms->ms.length=r.length
 |[],[],_=>rfl
 |_::r,_::ms,h=>by simp[bS.len h.1]
 |[],_::_,h=>h.elim
 |_::_,[],h=>h.elim
theorem bS.uniq:∀{r:List Tie} {ms ms':List Int},bS k r ms->bS k r ms'->ms=ms'
 |[],[],[],_,_=>rfl
 |_::r,m::ms,m'::ms',h,h'=>by have e:=bS.uniq h.1 h'.1;subst e;rw[h.2.uniq h'.2]
 |[],_::_,_,h,_=>h.elim
 |[],[],_::_,_,h=>h.elim
 |_::_,[],_,h,_=>h.elim
 |_::_,_::_,[],_,h=>h.elim
noncomputable def lab(n:Nat)(f:Int->Int):Dat:=.lst ((KY n).map fun(i:Nat)=>Dat.int (f i))
theorem n9(n:Nat)(f:Int->Int)(x:Int)(h0:0<=x)(h1:x<n):gIx (lab n f) (.int x)=some (.val (.int (f x))):=by
 unfold lab gIx atI ixN;have hx:x.toNat<n:=by lia
 have hc:((x.toNat:Nat):Int)=x:=by lia
 simp only[gp,Lk,h0,h1,if_true];simp[Mm hx,hc]
theorem Fz(n:Nat):Dat.lst (ups 0 n)=lab n fun x=>x:=by unfold ups lab;simp
theorem A7(n:Nat)(f:Int->Int):lab n f=.lst (((KY n).map fun(i:Nat)=>f i).map Dat.int):=by unfold lab;rw[Lq];rfl
theorem uW(n:Nat)(hn:n<=10)(f:Int->Int)(a b:Int)(a0:0<=a)(a1:a<n)(b0:0<=b)(b1:b<n):tF [lab n f,.int a,.int b]=some (.new (lab n (mgf f a b))):=by
 apply Ot;unfold tF
 (refine Dm.Oo ?_ rfl rfl;and_intros)
 refine Ol (Pd (fun i:Nat=>Dat.int (f i)) (KY n) (fun i:Nat=>mgf f a b i) Dat.int (d:=lab n f) ?_ rfl rfl rfl (by decide) (by rw[Lk];unfold SZ;lia) fun i _=>?_)
 ·rw[<- A7];rfl
 ·refine P_ (Of (M_ (K_ rfl (M_ (K_ rfl (K_ rfl (N_ ?_ rfl rfl (n9 n f b b0 b1))))))));refine OV (Oa ⟨fun g=>?_,fun g=>?_⟩) rfl rfl
  ·refine M_ (K_ rfl (K_ rfl (N_ (Oh ⟨?_,rfl⟩) rfl rfl (n9 n f a a0 a1))));unfold mgf;rw[if_pos (of_decide_eq_true g)]
  ·refine K_ rfl (Oh ⟨?_,rfl⟩);unfold mgf;rw[if_neg (of_decide_eq_false g)]
theorem qj(kK:α->Dat)(d:α):∀(k:Nat) (l:List α),g6 k (l.map kK)=(KY l.length).map fun i=>.tup [.int ((k+i:Nat):Int),kK (l.getD i d)]
 |k,[]=>rfl
 |k,x::l=>by
  rw[KA,g6,qj kK d (k+1) l,Li,List.range_succ_eq_map,KA,Lq]
  congr 1
  apply ME;intro i _;show _=Dat.tup [.int ((k+(i+1):Nat):Int),kK ((x::l).getD (i+1) d)];rw[show k+1+i=k+(i+1) by lia];rfl
theorem fD{n k:Nat}{p q:List Nat}(e:KY n=p++k::q):k=p.length/\k<n:=by
 have h1:(KY n)[p.length]?=some k:=by rw[e,KI (Nat.le_refl _),Ma];rfl
 have h2:p.length<n:=by
  have:(KY n).length=p.length+(q.length+1):=by rw[e];simp
  rw[Lk]at this;lia
 rw[Mm h2]at h1;injection h1 with h1
 lia
def yb(gs:List (Int->Int))(a b:Int)(i:Nat)(num:Int):Prop:=
 (num=0/\∀(j:Nat) f,j<i->gs[j]?=some f->f a=f b)\/∃(j:Nat) (f:Int->Int),j<i/\gs[j]?=some f/\f a≠f b/\(∀(j':Nat) f',j'<j->gs[j']?=some f'->f' a=f' b)/\num=(j:Int)+1
theorem yc(n:Nat)(gs:List (Int->Int))(a b:Int)(a0:0<=a)(a1:a<n)(b0:0<=b)(b1:b<n):∃num:Int,p9 [.lst (gs.map (lab n)),.int a,.int b]=some (.val (.int num))/\yb gs a b gs.length num:=by
 suffices hh:Wr (p9 [.lst (gs.map (lab n)),.int a,.int b]) fun v=>∃num:Int,v=.val (.int num)/\yb gs a b gs.length num by obtain⟨v,h1,num,rfl,h2⟩:=hh;exact⟨num,h1,h2⟩
 unfold p9
 (refine Dm.Oo ?_ rfl rfl;and_intros)
 refine N9 (OE (QJ (K_ rfl (Oh ⟨_,rfl,?_⟩))));rw[qj (lab n) fun x=>x];refine OI (fun i:Nat=>Dat.tup [.int ((0+i:Nat):Int),lab n (gs.getD i fun x=>x)]) _ _ (KY gs.length) _ _ _ _ _ (fun p q ρ=>∃c3 c4:Cell,ρ=[.sh (.lst (gs.map (lab n))),.sh (.int a),.sh (.int b),c3,c4]/\∀(j:Nat) f,j<p.length->gs[j]?=some f->f a=f b) ⟨_,_,rfl,fun j f hj=>by simp at hj⟩ ?_ ?_
 ·rintro p i q ρ e ⟨c3,c4,rfl,low⟩;obtain⟨ip,il⟩:=fD e;have hf:gs[i]?=some (gs.getD i fun x=>x):=by rw[Lu,KG il];rfl
  generalize (gs.getD i fun x=>x)=f at hf
  refine Dm.cJ rfl (by trivial) ?_;unfold xV;refine Ox (Of (M_ (M_ (K_ rfl (K_ rfl (N_ ?_ rfl rfl (n9 n f a a0 a1)))))));refine M_ (K_ rfl (K_ rfl (N_ ?_ rfl rfl (n9 n f b b0 b1))));refine Pb (Oa ?_) rfl rfl;by_cases h:f a=f b
  ·refine OD (by simp[h]) (Ou ⟨_,_,rfl,fun j g hj hg=>?_⟩);rw[KL,Me]at hj;by_cases q:j=i
   ·subst q;rw[hf]at hg;cases hg;exact h
   ·exact low j g (by lia) hg
  ·refine Ph (by simp[h]) (Ol (M_ (K_ rfl (N8 (Oe ?_ rfl rfl)))));exact⟨_,rfl,.inr ⟨i,f,il,hf,h,fun j g hj=>low j g (by lia),by lia⟩⟩
 ·rintro ρ ⟨c3,c4,rfl,low⟩;rw[Lk]at low;exact Ol (N8 ⟨0,rfl,.inl ⟨rfl,low⟩⟩)
def Ends(n:Int)(r:List Tie):Prop:=∀t∈r,0<=t.a/\t.a<n/\0<=t.b/\t.b<n
def A8(k:Nat)(gs:List (Int->Int))(r:List Tie)(ms:List Int):Prop:=gs.length=k/\∀(j:Nat) f,gs[j]?=some f->Tells f (lay r ms ((j:Int)+1))
theorem map_set(n:Nat)(gs:List (Int->Int))(i:Nat)(f:Int->Int):(gs.map (lab n)).set i (lab n f)=(gs.set i f).map (lab n):=by rw[List.map_set]
def yd(o:Bool)(gs gs':List (Int->Int))(a b:Int)(i:Nat)(num:Int):Prop:=
 (num=0/\gs'=gs/\∀(j:Nat) f,j<i->gs[j]?=some f->f a=f b)\/∃(j:Nat) (f:Int->Int),j<i/\gs[j]?=some f/\f a≠f b/\(∀(j':Nat) f',j'<j->gs[j']?=some f'->f' a=f' b)/\num=(j:Int)+1/\gs'=gs.set j (mgf f (if o then a else b) (if o then b else a))
theorem yd.num{k:Nat}{o:Bool}{gs gs':List (Int->Int)}(h:A8 k gs r ms)(t:Tie){num:Int}(l:yd o gs gs' t.a t.b k num):qi k r ms t num/\A8 k gs' (t::r) (num::ms):=by
 obtain⟨hl,ht⟩:=h;rcases l with⟨rfl,rfl,h2⟩ | ⟨j,f,jk,h1,h3,h4,rfl,rfl⟩
 ·refine⟨.inl ⟨rfl,fun j j1 j2=>?_⟩,hl,fun i g hg=>?_⟩
  ·have hj:(j-1).toNat<gs'.length:=by lia
   have:=(ht (j-1).toNat _ (KG hj) t.a t.b).mp (h2 _ _ (by lia) (KG hj));rw[show (((j-1).toNat:Nat):Int)+1=j by lia]at this;exact this
  ·rw[iw,if_neg (by lia)];exact ht i g hg
 ·have hj:j<gs.length:=(pe.mp h1).1;refine⟨.inr ⟨by lia,by lia,fun c=>h3 ((ht j f h1 t.a t.b).mpr c),fun i i1 i2=>?_⟩,by rw[K8];exact hl,fun i g hg=>?_⟩
  ·have hi:(i-1).toNat<gs.length:=by lia
   have:=(ht (i-1).toNat _ (KG hi) t.a t.b).mp (h4 (i-1).toNat _ (by lia) (KG hi));rw[show (((i-1).toNat:Nat):Int)+1=i by lia]at this;exact this
  ·rw[iw];by_cases q:j=i
   ·subst q;rw[KW hj]at hg;cases hg;rw[if_pos rfl];cases o
    ·exact tells_mgf (ht j f h1) t t.b t.a (.inr ⟨rfl,rfl⟩)
    ·exact tells_mgf (ht j f h1) t t.a t.b (.inl ⟨rfl,rfl⟩)
   ·rw[gc q]at hg;rw[if_neg (by lia)];exact ht i g hg
theorem Il(n:Nat)(gs:List (Int->Int)){i:Nat}{f:Int->Int}(h:gs[i]?=some f):gIx (.lst (gs.map (lab n))) (.int (0+(i:Nat)))=some (.val (lab n f)):=by
 have hi:=(pe.mp h).1;rw[NC];show (atI (gs.map (lab n)) i).map RV.val=_;rw[Dm.jD (lab n) gs (i:Nat) (by lia) (by lia)];have:gs[((i:Nat):Int).toNat]'(by lia)=f:=by
  have:=pe.mp h
  simpa using this.2
 rw[this];rfl
theorem Kd(k:Nat):A8 k ((KY k).map fun _=>(fun x:Int=>x)) [] []:=⟨by simp,fun j f hf=>by
 rw[KZ]at hf;cases h:(KY k)[j]? with
 |none=>rw[h]at hf;cases hf
 |some x=>rw[h]at hf;cases hf;exact tells_nil⟩
theorem d_(n k:Nat)(hn:n<=10)(hk1:1<=k)(hk6:k<=6)(r:List Tie)(hr:Ends n r)(hl:r.length<=1000):∃ms:List Int,mF [.int n,aK r,.int k]=some (.new (.lst (ms.map Dat.int)))/\bS k r ms:=by
 suffices hh:Wr (mF [.int (n:Nat),aK r,.int (k:Nat)]) fun v=>∃ms:List Int,v=.new (.lst (ms.map Dat.int))/\bS k r ms by obtain⟨v,h1,ms,rfl,h2⟩:=hh;exact⟨ms,h1,h2⟩
 unfold mF
 (refine Dm.Oo ?_ rfl rfl;and_intros)
 refine N9 (P5 (Oc (m_ (K_ rfl (L_ (Oi (kJ k (by lia) (by lia)) ?_ rfl rfl))))));refine N9 (Ob (PM (fun i:Nat=>Dat.int (0+(i:Nat))) (KY k) (fun _=>(fun x:Int=>x)) (lab n) (ρ1:=[.sh (.int (n:Nat)),.sh (aK r),.sh (.int (k:Nat)),.un,.un,.un,.un,.un,.un]) ?_ ?_ rfl (by decide) (by rw[Lk];unfold SZ;lia) fun i _=>?_) (by decide))
 rotate_left
 ·apply PR;refine Pc (K_ rfl (cG.mk ⟨⟨?_,rfl⟩,by unfold BIG;lia,by unfold BIG;lia⟩));rw[MT];rfl
 ·refine Oj (m_ (K_ rfl (L_ (Qv ?_ rfl (by lia)))));rw[MT,Fz];exact OS ⟨rfl,rfl⟩
 refine Oq ?_ (by trivial);refine N9 (Ob (OG (L_ (Om ?_ rfl rfl (by decide)))) (by decide));refine Oq ?_ (by trivial);refine N9 (OE (Qi (K_ rfl (Oh ⟨_,rfl,?_⟩))));rw[<- List.map_reverse];refine OI bD _ _ r.reverse _ _ _ _ _ (fun p q ρ=>∃(gs:List (Int->Int)) (ms:List Int) (c5 c6 c7 c8:Cell),ρ=[.sh (.int (n:Nat)),.sh (aK r),.sh (.int (k:Nat)),.ow (.lst (gs.map (lab n))),.ow (.lst (ms.reverse.map Dat.int)),c5,c6,c7,c8]/\A8 k gs p.reverse ms/\bS k p.reverse ms) ⟨(KY k).map fun _=>(fun x:Int=>x),[],.un,.un,.un,.un,rfl,Kd k,trivial⟩ ?_ ?_
 ·rintro p t q ρ e ⟨gs,ms,c5,c6,c7,c8,rfl,I,A⟩;have ht:t∈r:=List.mem_reverse.mp (by rw[e];simp);obtain⟨t0,t1,t2,t3⟩:=hr t ht;have lp:ms.length<=1000:=by
   have a:=A.len;have:r.reverse.length=p.length+(q.length+1):=by rw[e];simp
   rw[LH]at a this
   lia
  obtain⟨num,en,ln⟩:=yc n gs t.a t.b t0 t1 t2 t3;rw[I.1]at ln;refine Dm.cJ rfl (by trivial) ?_;unfold xW;refine N9 (Ob (Oc (m_ (OB rfl (m_ (K_ rfl (m_ (K_ rfl (L_ (Oi en (Od ?_ (by trivial)) rfl rfl))))))))) (by decide));refine Ow (fun ρ=>∃gs',ρ=[.sh (.int (n:Nat)),.sh (aK r),.sh (.int (k:Nat)),.ow (.lst (gs'.map (lab n))),.ow (.lst (ms.reverse.map Dat.int)),.sh (.int t.m),.sh (.int t.a),.sh (.int t.b),.sh (.int num)]/\yd true gs gs' t.a t.b k num) ?_ ?_
  ·refine Ox (Of (M_ (K_ rfl (N8 (OZ (Oa ?_) rfl rfl)))));rcases ln with⟨rfl,low⟩ | ⟨j,f,jk,hf,ne,low,rfl⟩
   ·exact OD rfl (Ou ⟨gs,rfl,.inl ⟨rfl,rfl,low⟩⟩)
   ·have gi:gIx (.lst (gs.map (lab n))) (.int ((j:Int)+1-1))=some (.val (lab n f)):=by
     have:=Il n gs hf;rw[show (j:Int)+1-1=0+(j:Nat) by lia];exact this
    refine Ph (decide_eq_true (by lia)) ?_;refine P1 (Oc (m_ (M_ (OB rfl (M_ (K_ rfl (N8 (OO (N_ ?_ rfl rfl gi) rfl rfl))))))));refine m_ (K_ rfl (m_ (K_ rfl (L_ (Og (uW n hn f t.a t.b t0 t1 t2 t3) ?_ rfl rfl rfl (by trivial))))));refine OS ⟨⟨_,rfl⟩,M_ (K_ rfl (N8 (OO (cG.mk ⟨gs.map (lab n),j,_,rfl,?_,rfl,?_⟩) rfl rfl)))⟩
    ·have hj:j<gs.length:=(pe.mp hf).1;rw[gp];unfold ixN;rw[if_pos (by lia),if_pos (by lia)]
     congr 1
     lia
    ·exact⟨gs.set j (mgf f t.a t.b),by rw[<- map_set];rfl,.inr ⟨j,f,jk,hf,ne,low,rfl,rfl⟩⟩
  ·rintro ρ ⟨gs',rfl,L⟩;obtain⟨h1,h2⟩:=L.num I t;refine O0 (K_ rfl (Oh (kD ?_ rfl (by trivial) (by rw[gp,LH];unfold SZ;lia)))) rfl;refine⟨gs',num::ms,.sh (.int t.m),.sh (.int t.a),.sh (.int t.b),.sh (.int num),by rw[Nv,LS];rfl,?_⟩;rw[Mn];exact⟨h2,A,h1⟩
 ·rintro ρ ⟨gs,ms,c5,c6,c7,c8,rfl,I,A⟩;rw[MD]at A;refine Ol (OQ (OB rfl (OJ (v:=.new (.lst (ms.map Dat.int))) ?_ rfl ?_)))
  ·exact⟨ms,rfl,A⟩
  ·unfold j0;dsimp only;rw[<- List.map_reverse,MD]
theorem Good.mem{n:Int}:∀{r:List Tie} {lo:Int},Good n lo r->∀t∈r,0<=t.a/\t.a<=t.b/\t.b<n
 |[],_,_,t,h=>by cases h
 |x::r,lo,g,t,h=>by
  rcases KD.mp h with rfl | h
  ·exact⟨g.2.1,g.2.2.1,g.2.2.2.1⟩
  ·exact Good.mem g.2.2.2.2 t h
noncomputable def keep(r:List Tie)(ms:List Int):List Tie:=((r.zip ms).filter fun p=>decide (0<p.2)).map (·.1)
theorem fT(t:Tie)(m:Int)(r:List Tie)(ms:List Int):keep (t::r) (m::ms)=if 0<m then t::keep r ms else keep r ms:=by unfold keep;rw[Lw,LW];by_cases h:0<m<;>simp[h]
noncomputable def zE(x:Tie×Int):Dat:=.tup [bD x.1,.int x.2]
theorem tN:∀(r:List Tie) (ms:List Int),fW (r.map bD) (ms.map Dat.int)=(r.zip ms).map zE
 |[],_=>by simp[fW]
 |_::_,[]=>by simp[fW]
 |t::r,m::ms=>by rw[KA,KA,fW,tN r ms,Lw,KA];rfl
theorem Qw(r:List Tie)(ms:List Int)(p:Tie×Int->Bool){k:Nat}{t:FT}{ρ ρ1:Env}(q:Q (.new (aK (((r.zip ms).filter p).map (·.1)))) ρ1)(Cp:it ρ=some (fW (r.map bD) (ms.map Dat.int),ρ1))(hk:ρ1.length=k)(hk0:k≠0)(hl:r.length<=SZ)
  (ht:∀x:Tie×Int,Wt t (ρ1++[.sh (bD x.1),.sh (.int x.2)]) fun c ρ'=>c=p x/\ρ'=ρ1++[.sh (bD x.1),.sh (.int x.2)]):We (cB it 2 (bT [k,k+1]) t (eV k)) ρ Q:=by
 have b:∀(x:Tie×Int) (c1 c2:Cell),bT [k,k+1] (zE x) (ρ1++[c1,c2])=some (ρ1++[.sh (bD x.1),.sh (.int x.2)]):=fun x c1 c2=>by show sets [k,k+1] [bD x.1,.int x.2] _=_;rw[sets,if_neg hk0,sets,if_neg (by lia),sets];rw[Lf _ _ (by lia),Lf _ _ (by lia)];subst hk;rw[Ma,show ρ1.length+1-ρ1.length=1 by lia];rfl
 refine PF zE (r.zip ms) p (fun x=>x.1) bD (fun x=>(ρ1++[Cell.sh (bD x.1),Cell.sh (.int x.2)]:Env)) (own:=2) (bd:=bT [k,k+1]) (Q:=Q) q (by rw[Cp,tN]) (fun x=>b x .un .un) (fun x y=>b x (.sh (bD y.1)) (.sh (.int y.2))) (fun x=>Mz) (by rw[List.length_zip];lia) (fun x _=>ht x) (fun x _ _=>?_);refine K_ (d:=bD x.1) ?_ (Oh ⟨rfl,rfl⟩);rw[KI (by lia),hk,Ma];rfl
theorem FA(r:List Tie):eqD (aK r) (aK r)=true:=by
 unfold aK;rw[eqD]
 induction r with
 |nil=>rfl
 |cons b bs ih=>rw[KA,gj,ih];simp[bD,eqD,gj]
theorem FD(r:List Tie):okD 8 (aK r)=true:=Cr bD r fun t=>rfl
theorem O3{Q:RV->Prop}(hk:okD 8 d=true)(he:eqD d d=true)(k:Q (.val (.bl false)))(ho:o=some d)(hp:p=some d):Wg2 gNe o p Q:=
 ⟨_,_,_,ho,hp,by unfold gNe;rw[hk,he];rfl,k⟩
theorem Qj{Q:RV->Prop}(hk:okD 8 d=true)(he:eqD d d=true)(k:Q (.val (.bl true)))(ho:o=some d)(hp:p=some d):Wg2 gEq o p Q:=
 ⟨_,_,_,ho,hp,by unfold gEq;rw[hk,he];rfl,k⟩
noncomputable def b7(n k:Nat)(r:List Tie):Dat:=.tup [.int (n:Nat),.int (k:Nat),aK r]
theorem uX{ρ ρ1:Env}{k:Nat}(r:List Tie)(ms:List Int)(q:Q (.new (aK (keep r ms))) ρ1)(Cp:it ρ=some (fW (r.map bD) (ms.map Dat.int),ρ1))(hk:ρ1.length=k)(hk0:k≠0)(hl:r.length<=SZ):We (cB it 2 (bT [k,k+1]) (tV (e2 gGt (eV (k+1)) (eC (.int 0)))) (eV k)) ρ Q:=by refine Qw r ms (fun p=>decide (0<p.2)) q Cp hk hk0 hl fun x=>?_;refine Of (M_ (K_ (d:=.int x.2) ?_ (N8 (OZ (Oa ⟨rfl,rfl⟩) rfl rfl))));rw[KI (by lia),hk];simp
theorem ye(n k:Nat)(hn:n<=10)(hk1:1<=k)(hk6:k<=6)(r:List Tie)(ms:List Int)(hr:Ends n r)(hl:r.length<=1000)(ha:bS k r ms):qc [.int (n:Nat),aK r,.int (k:Nat)]=some (.val (b7 n k (keep r ms))):=by
 obtain⟨ms',el,al⟩:=d_ n k hn hk1 hk6 r hr hl;rw[al.uniq ha]at el;apply Ot;unfold qc
 (refine Dm.Oo ?_ rfl rfl;and_intros)
 refine N9 (Ob (Oc (m_ (K_ rfl (m_ (K_ rfl (m_ (K_ rfl (L_ (Og el ?_ rfl rfl rfl rfl)))))))) ) (by decide));refine Oq ?_ (by trivial);refine Ol (OR (m_ (K_ rfl (m_ (K_ rfl (m_ (uX (ρ1:=[.sh (.int (n:Nat)),.sh (aK r),.sh (.int (k:Nat)),.sh (.lst (ms.map Dat.int))]) r ms (k:=4) ?_ ?_ rfl (by decide) (Nat.le_trans hl (by decide)))))))))
 ·exact L_ (Om rfl rfl rfl (Ld rfl))
 ·rfl
theorem qk:∀(r:List Tie) (ms:List Int) (j:Int),1<=j->lay (keep r ms) (ms.filter fun m=>decide (0<m)) j=lay r ms j\/r.length≠ms.length
 |[],[],_,_=>.inl rfl
 |[],_::_,_,_=>.inr (by simp)
 |_::_,[],_,_=>.inr (by simp)
 |t::r,m::ms,j,hj=>by
  rcases qk r ms j hj with ih | ih
  ·left;rw[fT,iw];by_cases h:0<m
   ·rw[if_pos h,Mq (by simpa using h),iw,ih]
   ·rw[if_neg h,Mr (by simpa using h),ih,if_neg (by lia)]
  ·right
   simpa using ih
theorem kL:∀{r:List Tie} {ms:List Int},bS k r ms->bS k (keep r ms) (ms.filter fun m=>decide (0<m))
 |[],[],_=>trivial
 |t::r,m::ms,h=>by
  have ih:=kL h.1;rw[fT];by_cases q:0<m
  ·rw[if_pos q,Mq (by simpa using q)];refine⟨ih,?_⟩;have e:∀j,1<=j->lay (keep r ms) (ms.filter fun m=>decide (0<m)) j=lay r ms j:=fun j hj=>by
    rcases qk r ms j hj with z | z
    ·exact z
    ·exact absurd h.1.len.symm z
   rcases h.2 with⟨h0,_⟩ | ⟨h1,h2,h3,h4⟩
   ·lia
   ·exact .inr ⟨h1,h2,by rw[e m h1];exact h3,fun j j1 j2=>by rw[e j j1];exact h4 j j1 j2⟩
  ·rw[if_neg q,Mr (by simpa using q)];exact ih
 |[],_::_,h=>h.elim
 |_::_,[],h=>h.elim
theorem iy:∀(r:List Tie) (ms:List Int),(keep r ms).Sublist r
 |[],ms=>by unfold keep;simp
 |_::_,[]=>by unfold keep;simp
 |t::r,m::ms=>by
  rw[fT];split
  ·exact(iy r ms).cons_cons t
  ·exact(iy r ms).cons t
theorem ql(n i:Int)(h0:0<=i)(h1:i<n):xT [.int n,.int i]=some (.val (.bl true)):=by
 apply Ot;unfold xT
 (refine Dm.Oo ?_ rfl rfl;and_intros)
 refine Ol (Oc (m_ (K_ rfl (m_ (N8 (m_ (M_ (K_ rfl (N8 (OO ?_ rfl rfl))))))))));exact L_ (Oi (dQ i 0 (n-1) h0 (by lia)) rfl rfl rfl)
theorem uY(m:Int)(h0:0<=m)(h1:m<=Z30):AW [.int m]=some (.val (.bl true)):=by
 apply Ot;unfold AW
 (refine Dm.Oo ?_ rfl rfl;and_intros)
 refine Ol (Oc (m_ (K_ rfl (m_ (N8 (m_ (M_ (N8 (N8 (OX (z:=Z30) ?_ rfl rfl (by decide) (by decide)))))))))));exact L_ (Oi (dQ m 0 Z30 h0 h1) rfl rfl rfl)
theorem uZ(n:Int)(t:Tie)(m0:0<=t.m)(m1:t.m<=Z30)(a0:0<=t.a)(a1:t.a<n)(b0:0<=t.b)(b1:t.b<n):AX [.int n,bD t]=some (.val (.bl true)):=by
 apply Ot;unfold AX bD
 (refine Dm.Oo ?_ rfl rfl;and_intros)
 refine N9 (Ox (OP (OA (Of (OQ (K_ rfl (OJ ?_ rfl rfl)))))));refine Oa ?_;refine OD rfl ?_;refine Of (M_ (Oj (m_ (K_ rfl (L_ (Pn ?_ rfl))))));refine N8 (Pb ?_ rfl rfl);refine Oa ?_;refine OD rfl ?_;refine Ou (Ol (O4 (Oc (m_ (M_ (K_ rfl (N8 (N_ ?_ rfl rfl rfl))))))));refine L_ ?_;refine Oi (uY t.m m0 m1) ?_ rfl rfl;refine Oa (O6 (O4 (Oc (m_ (K_ rfl (m_ (M_ (K_ rfl (N8 (N_ ?_ rfl rfl rfl))))))))));refine L_ ?_;refine Oi (ql n t.a a0 a1) ?_ rfl rfl;refine Oa (O6 (Oc (m_ (K_ rfl (m_ (M_ (K_ rfl (N8 (N_ ?_ rfl rfl rfl)))))))));refine L_ ?_;refine Oi (ql n t.b b0 b1) ?_ rfl rfl;refine OL ?_;rfl
theorem u5(n:Int)(t:Tie)(m0:0<=t.m)(m1:t.m<=Z30)(a0:0<=t.a)(ab:t.a<=t.b)(b1:t.b<n):AY [.int n,bD t]=some (.val (.bl true)):=by
 apply Ot;unfold AY
 (refine Dm.Oo ?_ rfl rfl;and_intros)
 refine Ol (O4 (Oc (m_ (K_ rfl (m_ (K_ rfl (L_ ?_)))))));refine Oi (uZ n t m0 m1 a0 (by lia) (by lia) b1) ?_ rfl rfl;refine Oa (O6 (M_ (M_ (K_ rfl (N8 (N_ ?_ rfl rfl rfl))))));refine M_ (K_ rfl (N8 (N_ ?_ rfl rfl rfl)));refine Pw ?_ rfl rfl;refine OL ?_;exact congrArg (fun b=>RV.val (Dat.bl b)) (decide_eq_true ab)
noncomputable abbrev A9(D:List Tie):Prop:=D.Pairwise fun t u=>t.m<u.m
theorem n_(n:Nat):ups 1 n=(KY n).map fun i:Nat=>Dat.int (1+(i:Int)):=rfl
theorem oh(n:Int)(h1:1<=n)(h2:n<=10):AV [.int n]=some (.val (.bl true)):=by
 apply Ot;unfold AV
 (refine Dm.Oo ?_ rfl rfl;and_intros)
 refine Ol (Oc (m_ (K_ rfl (m_ (N8 (m_ (N8 (L_ ?_))))))));refine Oi (dQ n 1 10 h1 h2) ?_ rfl rfl;refine OL ?_;rfl
theorem oj(n:Int)(h1:1<=n)(h2:n<=6):rG [.int n]=some (.val (.bl true)):=by
 apply Ot;unfold rG
 (refine Dm.Oo ?_ rfl rfl;and_intros)
 refine Ol (Oc (m_ (K_ rfl (m_ (N8 (m_ (N8 (L_ ?_))))))));refine Oi (dQ n 1 6 h1 h2) ?_ rfl rfl;refine OL ?_;rfl
theorem u6(D:List Tie)(h:A9 D)(hl:D.length<=75):AZ [.lst ((D.map (·.m)).map Dat.int)]=some (.val (.bl true)):=by
 have sz:1000<=SZ:=by decide
 apply Ot;unfold AZ
 (refine Dm.Oo ?_ rfl rfl;and_intros)
 refine Ol (Oj (m_ ?_));have Cp:iR2 (eC (.int 1)) (eB cV [eV 0]) [.sh (.lst ((D.map (·.m)).map Dat.int))]=some ((KY ((D.length:Int)-1).toNat).map (fun i:Nat=>Dat.int (1+(i:Int))),[.sh (.lst ((D.map (·.m)).map Dat.int))]):=by
  refine PR ?_;refine Po (N8 (cG.mk (Oj (m_ (K_ rfl (L_ (ON (kK:=Dat.int) ?_ rfl)))))));refine cG.mk ?_;refine⟨⟨?_,rfl⟩,?_⟩
  ·rw[n_,gp]
  ·rw[gp];unfold BIG;lia
 refine PM (fun i:Nat=>Dat.int (1+(i:Int))) (KY ((D.length:Int)-1).toNat) (fun _=>true) Dat.bl ?_ Cp rfl (by decide) (by simp;lia) (fun i hi=>?_)
 ·refine L_ (Pf (fun b=>b) (xs:=(KY ((D.length:Int)-1).toNat).map fun _=>true) ?_ rfl);exact OL (congrArg (fun b=>RV.val (Dat.bl b)) (by simp))
 ·have hi':=Ng.mp hi;refine M_ (M_ (K_ rfl (M_ (K_ rfl (N8 (OO ?_ rfl rfl))))));refine PC (kK:=Dat.int) (xs:=D.map (·.m)) (i:=1+(i:Int)-1) (by lia) (by rw[gp];lia) ?_ rfl rfl;refine M_ (K_ rfl (K_ rfl ?_));refine PC (kK:=Dat.int) (xs:=D.map (·.m)) (i:=1+(i:Int)) (by lia) (by rw[gp];lia) ?_ rfl rfl;refine OT ?_ rfl rfl;refine Oh ?_;have lt:=MF.mp h (1+(i:Int)-1).toNat (1+(i:Int)).toNat (by lia) (by lia) (by lia);refine⟨congrArg Dat.bl (decide_eq_true ?_),rfl⟩;rw[List.getElem_map,List.getElem_map];exact lt
structure Rcd(n:Nat)(r:List Tie):Prop where
 ok:∀t∈r,0<=t.m/\t.m<=Z30/\0<=t.a/\t.a<=t.b/\t.b<n
 up:A9 r
 len:r.length<=60
theorem Rcd.sub{r q:List Tie}(h:Rcd n r)(s:q.Sublist r):Rcd n q:=⟨fun t ht=>h.ok t (s.subset ht),h.up.sublist s,Nat.le_trans s.length_le h.len⟩
theorem Rcd.ends(h:Rcd n r):Ends n r:=fun t ht=>by obtain⟨h1,h2,h3,h4,h5⟩:=h.ok t ht;exact⟨h3,by lia,by lia,h5⟩
theorem Rcd.good(h:Rcd n r):Good n 0 r:=by
 have go:∀(r:List Tie) (lo:Int),(∀t∈r,0<=t.a/\t.a<=t.b/\t.b<(n:Nat))->(∀t∈r,lo<=t.m)->A9 r->Good n lo r:=fun r=>by
  induction r with
  |nil=>intro lo _ _ _;trivial
  |cons t r ih=>intro lo h1 h2 h3;obtain⟨p1,p2⟩:=LO.mp h3;obtain⟨q1,q2,q3⟩:=h1 t Kz;exact⟨h2 t Kz,q1,q2,q3,ih (t.m+1) (fun u hu=>h1 u (Kw _ hu)) (fun u hu=>by have:=p1 u hu;lia) p2⟩
 exact go r 0 (fun t ht=>(h.ok t ht).2.2) (fun t ht=>(h.ok t ht).1) h.up
theorem oq(n:Nat)(n1:1<=n)(n10:n<=10)(r:List Tie)(h:Rcd n r):tG [.int (n:Nat),aK r]=some (.val (.bl true)):=by
 have sz:1000<=SZ:=by decide
 have hl:=h.len;apply Ot;unfold tG
 (refine Dm.Oo ?_ rfl rfl;and_intros)
 refine N9 (Ox (OP (OA (Of (Oc (m_ (K_ rfl (L_ ?_))))))));refine Oi (oh n (by lia) (by lia)) ?_ rfl rfl;refine Oa ?_;refine OD rfl ?_;refine OP (OA (Of (OQ (K_ rfl (OJ ?_ rfl rfl)))));refine Oa ?_;refine OD rfl ?_;refine Of (M_ (Oj (m_ (K_ rfl (L_ (PV ?_ rfl))))));refine N8 (OZ ?_ rfl rfl);refine Oa ?_;refine OD (decide_eq_false (by rw[gp];lia)) ?_;refine Ou (N9 (Ox (OA (Of (Oj (m_ ?_))))));refine Pd bD r (fun _=>true) Dat.bl ?_ rfl rfl rfl (by decide) (by lia) (fun t ht=>?_)
 rotate_left
 ·obtain⟨h1,h2,h3,h4,h5⟩:=h.ok t ht;refine Oc (m_ (K_ rfl (m_ (K_ rfl (L_ ?_)))));refine Oi (u5 n t h1 h2 h3 h4 h5) ?_ rfl rfl;refine Oh ?_;exact⟨rfl,rfl⟩
 refine L_ ?_;refine Pf (fun b=>b) (xs:=r.map fun _=>true) ?_ rfl;refine Oa ?_;refine OD (by simp) ?_;refine Ou (Ol (Oc (m_ ?_)));refine Pd bD r (·.m) Dat.int ?_ rfl rfl rfl (by decide) (by lia) (fun t ht=>?_)
 rotate_left
 ·refine M_ (K_ rfl (N8 (N_ ?_ rfl rfl rfl)));refine Oh ?_;exact⟨rfl,rfl⟩
 refine L_ ?_;refine Oi (u6 r h.up (by lia)) ?_ rfl rfl;refine OL ?_;rfl
structure Net(n k:Nat)(N:List Tie):Prop where
 rc:Rcd n N
 num:∃ms,bS k N ms/\(0:Int)∉ms
theorem u7(n k:Nat)(n1:1<=n)(n10:n<=10)(k1:1<=k)(k6:k<=6)(N:List Tie)(h:Net n k N):tH [b7 n k N]=some (.val (.bl true)):=by
 have hl:=h.rc.len;obtain⟨ms,el,al⟩:=d_ n k n10 k1 k6 N h.rc.ends (by lia);obtain⟨ms',al',h0⟩:=h.num;rw[al'.uniq al]at h0;apply Ot;unfold tH b7
 (refine Dm.Oo ?_ rfl rfl;and_intros)
 refine N9 (Ox (OP (OA (Of (OQ (K_ rfl (OJ ?_ rfl rfl)))))));refine Oa ?_;refine OD rfl ?_;refine Of (M_ (Oj (m_ (K_ rfl (L_ (Pn ?_ rfl))))));refine N8 (Pb ?_ rfl rfl);refine Oa ?_;refine OD rfl ?_;refine Ou (N9 (Ox (OP (OA (Of (Oc (m_ (M_ (K_ rfl (N8 (N_ ?_ rfl rfl rfl)))))))))));refine L_ ?_;refine Oi (oj k (by lia) (by lia)) ?_ rfl rfl;refine Oa ?_;refine OD rfl ?_;refine OA (Of (Oc (m_ (M_ (K_ rfl (N8 (N_ ?_ rfl rfl rfl)))))));refine m_ (M_ (K_ rfl (N8 (N_ ?_ rfl rfl rfl))));refine L_ ?_;refine Oi (oq n n1 n10 N h.rc) ?_ rfl rfl;refine Oa ?_;refine OD rfl ?_;refine Ou (Ol (M_ (N8 (Oc (m_ (M_ (K_ rfl (N8 (N_ ?_ rfl rfl rfl)))))))));refine m_ (M_ (K_ rfl (N8 (N_ ?_ rfl rfl rfl))));refine m_ (M_ (K_ rfl (N8 (N_ ?_ rfl rfl rfl))));refine L_ ?_;refine Og el ?_ rfl rfl rfl (by trivial)
 skip
 refine Qn (xs:=ms) ?_ rfl rfl;refine OL ?_;exact congrArg (fun b=>RV.val (Dat.bl b)) (by simp[h0])
theorem Rcd.of(g:Good n 0 r)(hl:r.length<=60)(hm:∀t∈r,t.m<=Z30):Rcd n r:=⟨fun t ht=>by
  obtain⟨q1,q2,q3⟩:=Good.mem g t ht;exact⟨Good.lo g t ht,hm t ht,q1,q2,q3⟩,by
  have up:∀(r:List Tie) (lo:Int),Good n lo r->A9 r:=fun r=>by
   induction r with
   |nil=>intro _ _;exact List.Pairwise.nil
   |cons t r ih=>intro lo g;exact LO.mpr ⟨fun u hu=>by have:=Good.lo g.2.2.2.2 u hu;lia,ih _ g.2.2.2.2⟩
  exact up r 0 g,hl⟩
noncomputable def bE(r:List Tie)(t:Int):List Tie:=r.filter fun x=>decide (t<=x.m)
theorem qo(r:List Tie)(hl:r.length<=1000)(t:Int):kF [aK r,.int t]=some (.new (aK (bE r t))):=by
 apply Ot;unfold kF
 (refine Dm.Oo ?_ rfl rfl;and_intros)
 refine Ol ?_;refine PJ bD r (fun x=>decide (t<=x.m)) id bD (d:=aK r) ?_ rfl rfl rfl (by decide) (by unfold SZ;lia) (fun u _=>?_) fun u _ _=>?_
 ·rw[MX];rfl
 ·exact Of (M_ (M_ (K_ rfl (N8 (N_ (K_ rfl (Pq (Oa ⟨rfl,rfl⟩) rfl rfl)) rfl rfl rfl)))))
 ·exact K_ rfl (Oh ⟨rfl,rfl⟩)
theorem ou(r:List Tie)(t:Int):(bE r t).length<=r.length:=LY _ _
theorem qp(n k:Nat)(n1:1<=n)(n10:n<=10)(k1:1<=k)(k6:k<=6)(N:List Tie)(h:Net n k N):p_ [b7 n k N]=some (.val .non):=by
 apply Ot;unfold p_
 (refine Dm.Oo ?_ rfl rfl;and_intros)
 exact Ox (OA (Of (Oc (m_ (K_ rfl (L_ (Oi (u7 n k n1 n10 k1 k6 N h) (Oa (OH (Ou rfl))) rfl rfl)))))))
theorem iz(i:Int):x6 [.int i]=some (.val (.bl true)):=qh i
theorem tO(xs:List α):xs.all (fun _=>true)=true:=by induction xs<;>simp
theorem yf(ms:List Int)(h:ms.length<=1000):kH [.lst (ms.map Dat.int)]=some (.val (.bl true)):=by
 apply Ot;unfold kH
 (refine Dm.Oo ?_ rfl rfl;and_intros)
 refine Ol (Oj (m_ (Pd Dat.int ms (fun _=>true) Dat.bl (d:=.lst (ms.map Dat.int)) ?_ rfl rfl rfl (by decide) (by unfold SZ;lia) fun x hx=>?_)))
 ·refine L_ (Pf (fun _=>true) ?_ (by rw[Lq];rfl));rw[tO];rfl
 ·exact Oc (m_ (K_ rfl (L_ (Oi (iz x) (Oh ⟨rfl,rfl⟩) rfl rfl))))
theorem yg(ms:List Int)(h:ms.length<=1000):kH [tupI ms]=some (.val (.bl true)):=by
 apply Ot;unfold kH
 (refine Dm.Oo ?_ rfl rfl;and_intros)
 refine Ol (Oj (m_ (Pd Dat.int ms (fun _=>true) Dat.bl (d:=tupI ms) ?_ rfl rfl rfl (by decide) (by unfold SZ;lia) fun x hx=>?_)))
 ·refine L_ (Pf (fun _=>true) ?_ (by rw[Lq];rfl));rw[tO];rfl
 ·exact Oc (m_ (K_ rfl (L_ (Oi (iz x) (Oh ⟨rfl,rfl⟩) rfl rfl))))
theorem u9(n a t:Int)(hn:2<=n)(a0:0<=a)(a1:a<n)(t0:0<=t)(t1:t<n-1):0<=(a+1+t) % n/\(a+1+t) % n<n/\(a+1+t) % n≠a:=by
 have h:=cj (a+1+t) n (by lia);refine⟨h.1,h.2,?_⟩;by_cases q:a+1+t<n
 ·rw[Int.emod_eq_of_lt (by lia) q];lia
 ·have e:(a+1+t) % n=(a+1+t-n) % n:=by rw[Int.sub_emod_right]
  rw[e,Int.emod_eq_of_lt (by lia) (by lia)];lia
theorem yh(r:List Tie)(i:Int)(h0:0<=i)(h1:i<r.length):gIx (aK r) (.int i)=some (.val (bD (r[i.toNat]'(by omega)))):=by unfold aK gIx;dsimp only;rw[jD bD r i h0 h1];rfl
theorem yi(r:List Tie)(t:Tie):gIx (aK (r++[t])) (.int (-1))=some (.val (bD t)):=by
 unfold aK gIx atI ixN;dsimp only;rw[gp,KL,Me,if_neg (by decide),if_pos (by lia)];have:(-1+((r.length+1:Nat):Int)).toNat=r.length:=by lia
 rw[this];simp
theorem kM(x:Int)(r:List Tie)(hr:∀t∈r,0<=t.m)(hl:r.length<=1000):∃(t x':Int),mJ [aE x,aK r]=some (.val (.int t),aE x')/\0<=t:=by
 suffices h:WrM (mJ [aE x,aK r]) fun v d=>∃t x':Int,v=.val (.int t)/\d=aE x'/\0<=t by obtain⟨v,d,h1,n,x',rfl,rfl,h2⟩:=h;exact⟨n,x',h1,h2⟩
 unfold mJ;refine OW ?_ rfl rfl;and_intros;refine N9 (Ox (Of (M_ (K_ rfl (OG (L_ (Om ?_ rfl rfl (by decide))))))));refine PN (xs:=r.map bD) (Oa ?_) rfl rfl (FD r);rcases List.eq_nil_or_concat r with e | ⟨r0,tl,e⟩
 ·subst e;refine Ph rfl ?_;refine Ol ?_;refine Ov (m:=3) rfl (by decide) (by decide) rfl fun t x' h0 h1 ρ3 e=>?_;subst e;exact⟨_,rfl,t,x',rfl,rfl,h0⟩
 ·rw[List.concat_eq_append]at e;have Ii:(r.map bD).isEmpty=false:=by rw[e];simp
  rw[Ii];refine OD rfl (Ou ?_);have xR:r.length=r0.length+1:=by rw[e];simp
  refine Ow (fun ρ=>∃(at_ x1:Int),0<=at_/\ρ=[.ow (aE x1),.sh (aK r),.sh (.int at_)]) ?_ ?_
  ·refine Ob (M_ (M_ (K_ rfl ?_))) (by decide);refine O7 (Oj (m_ (K_ rfl (L_ (ON (kK:=bD) (xs:=r) (cG.mk ?_) rfl))))) rfl;refine jF ?_ rfl rfl (by lia) (by unfold gu;lia);have hi:=cj x r.length (by lia);refine N_ ?_ rfl rfl (yh r _ hi.1 hi.2);refine N8 (N_ ?_ rfl rfl rfl);exact Od ⟨_,_,hr _ (MC _),rfl⟩ (by trivial)
  rintro ρ ⟨at_,x1,ha,rfl⟩;refine Ol (M_ ?_);refine OG (m_ (N8 (m_ (K_ rfl (m_ (M_ (K_ rfl (N8 (Oe ?_ rfl rfl)))))))));refine m_ (Oj (m_ (N8 (m_ (M_ (K_ rfl (N8 (OO ?_ rfl rfl))))))));refine L_ (OU ?_ rfl);refine m_ (M_ (M_ (M_ (K_ rfl (OQ (N8 (OJ ?_ rfl rfl)))))));refine N_ ?_ rfl rfl (by rw[e];exact yi r0 tl);refine N8 (N_ ?_ rfl rfl rfl);refine N8 (Oe ?_ rfl rfl);refine m_ (K_ rfl (L_ (Om ?_ rfl rfl (by exact Ld rfl))));refine Ov (m:=6) rfl (by decide) (by decide) rfl fun t x' h0 h1 ρ3 e'=>?_;subst e';have htl:0<=tl.m:=hr tl (by rw[e];simp);have:t=0\/t=1\/t=2\/t=3\/t=4\/t=5:=by lia
  rcases this with rfl | rfl | rfl | rfl | rfl | rfl
  ·exact N_ (⟨_,rfl,_,x',rfl,rfl,by decide⟩) rfl rfl rfl
  ·exact N_ (⟨_,rfl,_,x',rfl,rfl,ha⟩) rfl rfl rfl
  ·exact N_ (⟨_,rfl,_,x',rfl,rfl,by lia⟩) rfl rfl rfl
  ·exact N_ (⟨_,rfl,_,x',rfl,rfl,by split<;>lia⟩) rfl rfl rfl
  ·exact N_ (⟨_,rfl,_,x',rfl,rfl,by lia⟩) rfl rfl rfl
  ·exact N_ (⟨_,rfl,_,x',rfl,rfl,ha⟩) rfl rfl rfl
theorem tP(r:List Tie)(hl:r.length<=1000)(S:List Int):kE [aK r,tupI S]=some (.l (((bw r S).map Dat.int).map .s)):=by
 have w:Wq (qR (pO (aS 0 3 (bT [2,3,4]) (tV (e2 gNe (e2 gIn (eV 3) (eV 1)) (e2 gIn (eV 4) (eV 1)))) (eV 2)))) [.sh (aK r),.sh (tupI S)] fun p=>p=.l (((bw r S).map Dat.int).map .s):=by
  refine Qm (Qc (ds:=(bw r S).map Dat.int) ?_);refine Qu bD r (ovr S) (·.m) Dat.int (fun t=>.int t.m) (fun t=>.int t.a) (fun t=>.int t.b) (fun _=>rfl) (d:=aK r) ?_ rfl rfl rfl (by decide) (by unfold SZ;lia) (fun u _=>?_) fun u _ _=>?_
  ·exact⟨rfl,rfl⟩
  ·refine Of (M_ (M_ (K_ rfl (K_ rfl (O_ (xs:=S) ?_ rfl rfl)))));refine M_ (K_ rfl (K_ rfl (O_ (xs:=S) ?_ rfl rfl)));exact Pg (Oa ⟨rfl,rfl⟩) rfl rfl
  ·exact K_ rfl (Oh ⟨rfl,rfl⟩)
 obtain⟨p,e,rfl⟩:=P9 (n:=2) (m:=0) (ds:=[aK r,tupI S]) w rfl rfl;exact e
theorem A_(ds:List Dat):Dp.bR (ds.map .s)=ds:=Dp.qV ds
theorem yj(r:List Tie)(hl:r.length<=1000)(S:List Int):xU [aK r,tupI S]=some (.new (.lst ((bw r S).map Dat.int))):=tE (tP r hl S) (A_ _)
theorem Ba(r:List Tie)(hl:r.length<=1000)(S:List Int):tK [aK r,tupI S]=some (.new (.lst ((bw r S).map Dat.int))):=by
 apply Ot;unfold tK
 (refine Dm.Oo ?_ rfl rfl;and_intros)
 refine Ol ?_;refine PJ bD r (ovr S) (·.m) Dat.int (d:=aK r) ?_ rfl rfl rfl (by decide) (by unfold SZ;lia) (fun u _=>?_) fun u _ _=>?_
 ·rfl
 ·refine Of (M_ (M_ (M_ (K_ rfl (N8 (N_ (v:=.int u.a) ?_ rfl rfl rfl))))));refine K_ rfl (O_ (xs:=S) ?_ rfl rfl);refine M_ (M_ (K_ rfl (N8 (N_ (v:=.int u.b) ?_ rfl rfl rfl))));refine K_ rfl (O_ (xs:=S) ?_ rfl rfl);exact Pg (Oa ⟨rfl,rfl⟩) rfl rfl
 ·exact M_ (K_ rfl (N8 (N_ (v:=.int u.m) (Oh ⟨rfl,rfl⟩) rfl rfl rfl)))
theorem i6(r:List Tie)(hl:r.length<=1000)(t:Int):kG [aK r,.int t]=some (.new (aK (bE r t))):=by
 have:kG=kF:=by unfold kG kF;rfl
 rw[this];exact qo r hl t
noncomputable def bG:Nat->List (List Int)
 |0=>[[]]
 |p+1=>bG p++(bG p).map fun S=>S++[((p+1:Nat):Int)]
theorem cU:∀p,(bG p).length=2 ^ p
 |0=>rfl
 |p+1=>by rw[bG,KL,gp,cU p,Nat.pow_succ];lia
theorem dR:∀(p:Nat) (S:List Int),S∈bG p->(∀x∈S,1<=x/\x<=p)/\S.length<=p
 |0,S,h=>by rw[bG]at h;have:=KS.mp h;subst this;refine⟨fun x hx=>?_,Nat.le_refl _⟩;cases hx
 |p+1,S,h=>by
  rw[bG]at h;rcases K3.mp h with h | h
  ·obtain⟨a,b⟩:=dR p S h;exact⟨fun x hx=>⟨(a x hx).1,by have:=(a x hx).2;lia⟩,by lia⟩
  ·obtain⟨T,hT,rfl⟩:=Lz.mp h;obtain⟨a,b⟩:=dR p T hT;refine⟨fun x hx=>?_,by rw[KL];simp;lia⟩;rcases K3.mp hx with hx | hx
   ·exact⟨(a x hx).1,by have:=(a x hx).2;lia⟩
   ·rw[KS.mp hx];lia
theorem fE:∀p,(bG p).Nodup
 |0=>by simp[bG]
 |p+1=>by
  rw[bG];refine MR.mpr ⟨fE p,?_,fun S hS T hT e=>?_⟩
  ·refine Nr.map _ (fun a b Im e=>Im ?_) (fE p);exact List.append_cancel_right e
  ·obtain⟨U,hU,rfl⟩:=Lz.mp hT;have:=((dR p S hS).1 ((p+1:Nat):Int) (by rw[e];simp)).2
   lia
theorem ee:∀p,∃r,bG p=[]::r/\∀S∈r,S≠[]
 |0=>⟨[],rfl,fun S h=>by cases h⟩
 |p+1=>by
  obtain⟨r,e,h⟩:=ee p;refine⟨r++(bG p).map fun S=>S++[((p+1:Nat):Int)],by rw[bG,e];rfl,fun S hS=>?_⟩;rcases K3.mp hS with hS | hS
  ·exact h S hS
  ·obtain⟨T,_,rfl⟩:=Lz.mp hS;simp
theorem qq{p:Nat}(h:p<=9):2 ^ p<=512:=Nat.pow_le_pow_right (by decide) h
theorem mL(S:List Int)(x:Int){a b:FE}(ha:a ρ=some (.val (tupI S),ρ))(hb:b ρ=some (.val (.int x),ρ))(hl:S.length<=20)(q:Q (.val (tupI (S++[x]))) ρ):We (e2 ku a (eN [b])) ρ Q:=by refine M_ ⟨_,_,ha,OR (m_ ⟨_,_,hb,L_ (Om ?_ rfl rfl (by show 1<=SZ;unfold SZ;lia))⟩)⟩;refine⟨_,_,_,rfl,rfl,(show ku (tupI S) (.tup [.int x])=some (.val (tupI (S++[x]))) from ?_),q⟩;show (if (S.map Dat.int).length+1<=SZ then some (RV.val (.tup (S.map Dat.int++[.int x]))) else none)=_;rw[if_pos (by rw[gp];unfold SZ;lia)];show _=some (RV.val (.tup ((S++[x]).map Dat.int)));rw[LS];rfl
theorem u_(n:Nat)(n1:1<=n)(n10:n<=10):tL [.int (n:Nat)]=some (.new (.lst ((bG (n-1)).tail.map tupI))):=by
 apply Ot;unfold tL
 (refine Dm.Oo ?_ rfl rfl;and_intros)
 refine N9 (Ob (OG (m_ (OR (L_ (Om (L_ (Om (Oq ?_ (by trivial)) rfl rfl (by decide))) rfl rfl (by decide)))))) (by decide));refine N9 (OE (Po (N8 (cG.mk (K_ rfl (cG.mk ⟨?_,by unfold BIG;lia⟩))))));rw[show ((n:Int)-1).toNat=n-1 by lia,n_];refine OI (fun i:Nat=>Dat.int (1+(i:Int))) _ _ (KY (n-1)) _ _ _ _ _ (fun p q ρ=>∃c2:Cell,ρ=[.sh (.int (n:Nat)),.ow (.lst ((bG p.length).map tupI)),c2]) ⟨_,rfl⟩ ?_ ?_
 ·rintro p i q ρ e ⟨c2,rfl⟩;obtain⟨hi,hin⟩:=fD e;have hb:=qq (p:=p.length) (by lia);refine Dm.cJ rfl (by trivial) ?_;unfold x8;refine Ob (M_ (OB rfl ?_)) (by decide);refine P8 tupI (bG p.length) (fun S=>S++[((p.length+1:Nat):Int)]) tupI ?_ rfl (by trivial) rfl (by decide) (by rw[cU];unfold SZ;lia) fun S hS=>?_
  ·refine Pu (Oq ⟨.sh (.int (1+(i:Int))),?_⟩ (by trivial)) rfl rfl (by rw[gp,gp,gp,cU];unfold SZ;lia);rw[KL,<- LS];rfl
  ·refine mL S _ rfl rfl (by have:=(dR _ S hS).2;lia) (Oh ⟨?_,rfl⟩);rw[hi,show (1+(p.length:Int))=((p.length+1:Nat):Int) by lia]
 ·rintro ρ ⟨c2,rfl⟩;rw[Lk];refine Ol (Pp (OB rfl (Wp.some (N8 (cG.mk (Wp.none (Wsl.A (kK:=tupI) (xs:=bG (n-1)) (O5 ?_) rfl)))))));obtain⟨r,er,_⟩:=ee (n-1);rw[er];show _=_
  congr 2
  unfold AL;have e1:(min (1:Int) ((r.length:Int)+1)).toNat=1:=by lia
  simp[sIx,e1]
theorem Qz(kK:α->Dat)(x0:α)(r:List α)(p:α->Bool)(v:α->Dat){i:Nat}{k:Nat}{t:FT}{el:FE}{ρ ρa ρb:Env}{Q:Val->Env->Prop}
  (q:Q (.new (.lst (((x0::r).filter p).map v))) (ρb.set i (.ow (.lst ((x0::r).map kK))))) (hi:ρ[i]?=some (.ow (.lst ((x0::r).map kK)))) (h1:ρ.set i .un=ρa) (hk:ρ.length=k) (hkb:ρb.length=k) (hk0:k≠0) (hl:(x0::r).length<=SZ)
  (h0:Wt t (ρa++[.sh (kK x0)]) fun c ρ'=>c=p x0/\ρ'=ρb++[.sh (kK x0)])
  (ht:∀x∈r,Wt t (ρb++[.sh (kK x)]) fun c ρ'=>c=p x/\ρ'=ρb++[.sh (kK x)])
  (he:∀x∈x0::r,p x=true->We el (ρb++[.sh (kK x)]) fun w ρ'=>Wk ρ' w fun d ρ''=>d=v x/\ρ''=ρb++[.sh (kK x)]):We (aS i 1 (bN k) t el) ρ Q:=by
 have xR:ρa.length=ρ.length:=by rw[<- h1,K8]
 have bda:∀(d:Dat) (c:Cell),bN k d (ρa++[c])=some (ρa++[.sh d]):=fun d c=>by unfold bN;rw[if_neg hk0,Lf _ _ (by lia)];simp[hk,xR]
 have bdb:∀(d:Dat) (c:Cell),bN k d (ρb++[c])=some (ρb++[.sh d]):=fun d c=>by unfold bN;rw[if_neg hk0,Lf _ _ (by lia)];simp[hkb]
 have e:∃c',cA (bN k) t el ((x0::r).map kK) (ρa++[.un]) []=some (((x0::r).filter p).map v,ρb++[c']):=by
  rw[KA,cA,bda];dsimp only;obtain⟨c0,ρ0,e0,rfl,rfl⟩:=h0;rw[e0];have xN:=fun AR=>p8 kK p v (bN k) t el (fun c=>ρb++[c]) bdb r (.sh (kK x0)) AR (fun x hx=>Pa (ht x hx)) fun x hx=>he x (Kw _ hx);rw[LW];cases hp:p x0 with
  |false=>dsimp only;obtain⟨c',e⟩:=xN [];exact⟨c',by rw[e];rfl⟩
  |true=>dsimp only;obtain⟨w,ρ',e1,d,ρ'',e2,rfl,rfl⟩:=he x0 Kz hp;rw[e1];dsimp only;rw[e2];dsimp only;obtain⟨c',e⟩:=xN ([]++[v x0]);exact⟨c',by rw[e];rfl⟩
 obtain⟨c',e⟩:=e;refine⟨_,_,?_,q⟩;unfold aS;rw[hi];dsimp only;rw[if_pos (by rw[gp];exact hl),h1];show (match cA _ _ _ _ (ρa++[.un]) [] with | none=>none | some (ys,ρ2)=>some (Val.new (.lst ys),(ρ2.take ρ.length).set i (.ow (.lst ((x0::r).map kK)))))=_;rw[e];dsimp only;rw[show ρ.length=ρb.length by lia,Mz]
noncomputable def amg(r:List Tie)(p:Nat):List Tie:=r.filter fun t=>decide (t.b<=(p:Int))
noncomputable def ck(r:List Tie)(k p:Nat):List (List Int):=(bG p).filter fun S=>decide ((bw (amg r p) S).length<k)
theorem filter_le{p q:α->Bool}{l:List α}(h:∀x∈l,p x=true->q x=true):(l.filter p).length<=(l.filter q).length:=by
 induction l with
 |nil=>simp
 |cons x l ih=>
  have:=ih fun y hy=>h y (Kw _ hy);rw[LW,LW];cases hp:p x with
  |false=>cases q x<;>simp<;>lia
  |true=>rw[h x Kz hp];simp;lia
theorem tQ(r:List Tie)(p:Nat)(S:List Int):(bw (amg r p) S).length=(r.filter fun t=>decide (t.b<=(p:Int))&&ovr S t).length:=by
 unfold bw amg;rw[gp,Nn]
 congr 1
 exact Ny fun t _=>Bool.and_comm _ _
theorem vc{n:Int}(hr:Ends n r)(Im:∀t∈r,t.a<=t.b)(k p:Nat) :
  (ck r k p++(ck r k p).map fun S=>S++[((p+1:Nat):Int)]).filter (fun S=>decide ((bw (amg r (p+1)) S).length<k))=ck r k (p+1):=by
 have ff:∀{α:Type} (a b:α->Bool) (l:List α),(∀x∈l,a x=true->b x=true)->(l.filter b).filter a=l.filter a:=fun a b l h=>by
  rw[Nn];exact Ny fun x hx=>by cases ha:a x with
   |false=>simp
   |true=>simp[h x hx ha]
 unfold ck;rw[bG,Np,Np,List.filter_map,List.filter_map]
 congr 1
 ·refine ff _ _ _ fun S hS h=>decide_eq_true ?_;have h:=of_decide_eq_true h;rw[tQ]at h ⊢;refine MH (filter_le fun t ht q=>?_) h;simp only[K5,decide_eq_true_eq]at q ⊢;exact⟨by lia,q.2⟩
 ·congr 1
  refine ff _ _ _ fun S hS h=>decide_eq_true ?_;have h:=of_decide_eq_true (show decide ((bw (amg r (p+1)) (S++[((p+1:Nat):Int)])).length<k)=true from h);rw[tQ]at h ⊢;refine MH (filter_le fun t ht q=>?_) h;simp only[K5,decide_eq_true_eq]at q ⊢;refine⟨by lia,?_⟩;have h1:=Im t ht;have:=q.1;have nm:∀z:Int,z<=p->decide (z∈S++[((p+1:Nat):Int)])=decide (z∈S):=fun z hz=>by
   have Ii:z≠((p+1:Nat):Int):=by lia
   by_cases hm:z∈S
   ·rw[decide_eq_true hm,decide_eq_true (Lv _ hm)]
   ·rw[decide_eq_false hm,decide_eq_false fun q=>?_];rcases K3.mp q with q | q
    ·exact hm q
    ·exact Ii (KS.mp q)
  have e1:=nm t.a (by lia);have e2:=nm t.b (by lia);have q2:=q.2;unfold ovr at q2 ⊢;rw[e1,e2];exact q2
theorem Bb(r:List Tie):bw r []=[]:=by unfold bw;rw[List.filter_eq_nil_iff.mpr fun t _=>by simp[ovr]];rfl
theorem mO(r:List Tie){k:Nat}(k1:1<=k)(p:Nat):∃q,ck r k p=[]::q:=by obtain⟨q,e,_⟩:=ee p;unfold ck;rw[e,LW,Bb];exact⟨_,if_pos (decide_eq_true (show 0<k by lia))⟩
theorem kN(r:List Tie)(k p:Nat):(ck r k p).length<=2 ^ p:=by rw[<- cU];exact LY _ _
theorem Bc{k p:Nat}{S:List Int}(h:S∈ck r k p):S∈bG p:=(LZ.mp h).1
noncomputable def bA(n k:Nat)(r:List Tie):List (List Int):=(bG (n-1)).tail.filter fun S=>decide ((bw r S).length<k)
theorem yk{n k:Nat}(n1:1<=n)(hr:Ends n r):(ck r k (n-1)).filter (fun S=>decide (0<S.length))=bA n k r:=by
 have e:amg r (n-1)=r:=by
  unfold amg;refine L5.mpr fun t ht=>decide_eq_true ?_;have:=(hr t ht).2.2.2
  lia
 unfold ck bA;rw[e];obtain⟨q,eq,hq⟩:=ee (n-1);rw[eq,Nn,LW,if_neg (by simp),List.tail_cons];refine Ny fun S hS=>?_;have:0<S.length:=List.length_pos_iff.mpr (hq S hS);simp[this]
theorem Bd(r:List Tie)(S:List Int):(bw r S).length<=r.length:=by unfold bw;rw[gp];exact LY _ _
theorem Be(n k:Nat)(n1:1<=n)(n10:n<=10)(k1:1<=k)(r:List Tie)(hr:Ends n r)(Im:∀t∈r,t.a<=t.b)(hl:r.length<=1000) :
  mG [.int (n:Nat),aK r,.int (k:Nat)]=some (.new (.lst ((bA n k r).map tupI))):=by
 apply Ot;unfold mG
 (refine Dm.Oo ?_ rfl rfl;and_intros)
 refine N9 (Ob (OG (m_ (OR (L_ (Om (L_ (Om (Oq ?_ (by trivial)) rfl rfl (by decide))) rfl rfl (by decide)))))) (by decide));refine N9 (OE (Po (N8 (cG.mk (K_ rfl (cG.mk ⟨?_,by unfold BIG;lia⟩))))));rw[show ((n:Int)-1).toNat=n-1 by lia,n_];have t0:ck r k 0=[[]]:=by
  obtain⟨q,e⟩:=mO r k1 0;have:=kN r k 0;rw[e]at this ⊢;cases q with
  |nil=>rfl
  |cons a b=>simp at this
 refine OI (fun i:Nat=>Dat.int (1+(i:Int))) _ _ (KY (n-1)) _ _ _ _ _ (fun p q ρ=>∃c4 c5 c6:Cell,ρ=[.sh (.int (n:Nat)),.sh (aK r),.sh (.int (k:Nat)),.ow (.lst ((ck r k p.length).map tupI)),c4,c5,c6]) ⟨_,_,_,by rw[List.length_nil,t0];rfl⟩ ?_ ?_
 ·rintro p i q ρ e ⟨c4,c5,c6,rfl⟩;obtain⟨hi,hin⟩:=fD e;have hb:=qq (p:=p.length) (by lia);have hb2:=kN r k p.length;have ei:(1+(i:Int))=((p.length+1:Nat):Int):=by lia
  refine Dm.cJ rfl (by trivial) ?_;rw[ei];unfold xX;refine N9 (Ob ?_ (by decide));refine PJ bD r (fun t=>decide (t.b<=((p.length+1:Nat):Int))) id bD (d:=aK r) (Oq ?_ (by trivial)) rfl rfl rfl (by decide) (by unfold SZ;lia) (fun u _=>?_) fun u _ _=>?_
  rotate_left
  ·exact Of (M_ (M_ (K_ rfl (N8 (N_ (v:=.int u.b) (K_ rfl (Pw (Oa ⟨rfl,rfl⟩) rfl rfl)) rfl rfl rfl)))))
  ·exact K_ rfl (Oh ⟨rfl,rfl⟩)
  rw[MX];show Ws _ [_,_,_,_,_,.ow (aK (amg r (p.length+1))),_] _ _ _ _;have hla:(amg r (p.length+1)).length<=1000:=Nat.le_trans (LY _ _) hl;refine N9 (Ob (M_ (OB rfl ?_)) (by decide));refine P8 tupI (ck r k p.length) (fun S=>S++[((p.length+1:Nat):Int)]) tupI ?_ rfl (by trivial) rfl (by decide) (by unfold SZ;lia) fun S hS=>?_
  rotate_left
  ·exact mL S _ rfl rfl (by have:=(dR _ S (Bc hS)).2;lia) (Oh ⟨rfl,rfl⟩)
  refine Pu (Oq ?_ (by trivial)) rfl rfl (by rw[gp,gp,gp];unfold SZ;lia);rw[<- LS];obtain⟨w,ew⟩:=mO r k1 p.length;have step:=vc hr Im k p.length;have xR:(ck r k p.length++(ck r k p.length).map fun S=>S++[((p.length+1:Nat):Int)]).length<=2000:=by rw[KL,gp];lia
  rw[show (p++[i]).length=p.length+1 by simp,<- step];obtain⟨w2,ew2⟩:∃w2,(ck r k p.length++(ck r k p.length).map fun S=>S++[((p.length+1:Nat):Int)])=[]::w2:=⟨_,by rw[ew];rfl⟩
  rw[ew2]at xR ⊢
  generalize ck r k p.length=TL at *
  generalize amg r (p.length+1)=AM at *
  refine Ob ?_ (by decide);refine Qz tupI [] w2 (fun S=>decide ((bw AM S).length<k)) tupI (ρb:=[.sh (.int (n:Nat)),.sh (aK r),.sh (.int (k:Nat)),.ow (.lst (TL.map tupI)),.sh (.int ((p.length+1:Nat):Int)),.sh (aK AM),.un])
   (Oq ⟨_,_,_,rfl⟩ (by trivial)) rfl (by trivial) rfl rfl (by decide) (by unfold SZ;lia) ?_ (fun S _=>?_) fun S _ _=>?_
  ·refine Of (M_ (Oj (m_ (Oc (m_ (OB rfl (m_ (K_ rfl (L_ (Og (yj AM hla []) ?_ rfl rfl rfl rfl)))))))))) ;refine L_ (ON (kK:=Dat.int) (xs:=bw AM []) ?_ rfl);refine K_ rfl (OT (Oa ⟨?_,rfl⟩) rfl rfl);exact decide_eq_decide.mpr (by lia)
  ·refine Of (M_ (Oj (m_ (Oc (m_ (K_ rfl (m_ (K_ rfl (L_ (Og (yj AM hla S) ?_ rfl rfl rfl rfl)))))))))) ;refine L_ (ON (kK:=Dat.int) (xs:=bw AM S) ?_ rfl);refine K_ rfl (OT (Oa ⟨?_,rfl⟩) rfl rfl);exact decide_eq_decide.mpr (by lia)
  ·exact K_ rfl (Oh ⟨rfl,rfl⟩)
 ·rintro ρ ⟨c4,c5,c6,rfl⟩;rw[Lk];have hb:=qq (p:=n-1) (by lia);have hb2:=kN r k (n-1);refine Ol ?_;refine QE tupI (ck r k (n-1)) (fun S=>decide (0<S.length)) id tupI (O5 ?_) rfl (by trivial) rfl (by decide) (by unfold SZ;lia) (fun S _=>?_) fun S _ _=>?_
  ·rw[MX,yk n1 hr]
  ·refine Of (M_ (Oj (m_ (K_ rfl (L_ (Pn (xs:=S.map Dat.int) ?_ rfl))))));refine N8 (OZ (Oa ⟨?_,rfl⟩) rfl rfl);rw[gp];exact decide_eq_decide.mpr (by lia)
  ·exact K_ rfl (Oh ⟨rfl,rfl⟩)
theorem ins_map{α β:Type}(f:α->β)(lt:β->β->Bool)(x:α):∀l:List α,ins lt (f x) (l.map f)=(ins (fun a b=>lt (f a) (f b)) x l).map f
 |[]=>rfl
 |y::l=>by
  rw[KA,ins,ins];split
  ·rw[ins_map f lt x l,KA]
  ·rw[KA,KA]
theorem cT{α β:Type}(f:α->β)(lt:β->β->Bool):∀l:List α,aZ lt (l.map f)=(aZ (fun a b=>lt (f a) (f b)) l).map f
 |[]=>rfl
 |x::l=>by rw[KA,aZ,aZ,cT f lt l,ins_map]
noncomputable abbrev yl(r:List Tie)(S:List Int):Dat:=.lst ((bw r S).map Dat.int)
noncomputable def cutD(r:List Tie)(S:List Int):Dat:=.tup [tupI S,yl r S]
noncomputable def kO(r:List Tie)(S:List Int):Dat:=.tup [.int ((bw r S).length:Nat),tupI S,yl r S]
noncomputable def kQ(r:List Tie)(S:List Int):List Int:=((bw r S).length:Int)::S
noncomputable abbrev FK:FE:=eN [(eB cV [(e2 gIx (eV 0) (eC (.int 1)))]),(e2 gIx (eV 0) (eC (.int 0)))]
theorem oz(r:List Tie)(S:List Int):fX FK (cutD r S)=some (kQ r S):=by
 have w:We FK [.sh (cutD r S)] fun v ρ=>v=.val (.tup [.int ((bw r S).length:Nat),tupI S])/\ρ=[.sh (cutD r S)]:=by refine OR (m_ (Oj (m_ (M_ (K_ rfl (N8 (N_ (v:=yl r S) ?_ rfl rfl rfl)))))));refine L_ (ON (kK:=Dat.int) (xs:=bw r S) ?_ rfl);refine m_ (M_ (K_ rfl (N8 (N_ (v:=tupI S) ?_ rfl rfl rfl))));exact L_ (Om ⟨rfl,rfl⟩ rfl rfl (by show 2<=SZ;unfold SZ;lia))
 obtain⟨v,ρ,e,rfl,rfl⟩:=w;unfold fX;rw[e];show (cN (S.map Dat.int)).map _=_;rw[gG];rfl
theorem ym(r:List Tie)(S:List Int):pY (kO r S)=some (kQ r S):=by show (cN (S.map Dat.int)).map _=_;rw[gG];rfl
theorem keys_map{g:List Int->List Int}(h:∀S,key (f S)=some (g S)):∀l:List (List Int),keysOf key (l.map f)=some (l.map g)
 |[]=>rfl
 |S::l=>by rw[KA,keysOf,h,keys_map h l];rfl
theorem qt(n k:Nat)(r:List Tie):(bA n k r).Nodup:=by unfold bA;refine N5.sublist List.filter_sublist ?_;exact N5.sublist (List.tail_sublist _) (fE _)
theorem fU(n10:n<=10)(k:Nat)(r:List Tie):(bA n k r).length<=512:=by
 unfold bA;refine Nat.le_trans (LY _ _) ?_;rw[List.length_tail,cU];have:=qq (p:=n-1) (by lia)
 lia
noncomputable def dF(n k:Nat)(r:List Tie):List (List Int):=aZ (fun a b=>lx (kQ r a) (kQ r b)) (bA n k r)
theorem tR(n k:Nat)(r:List Tie):((bA n k r).map (kQ r)).Nodup:=by refine Nr.map _ (fun a b Im e=>Im ?_) (qt n k r);exact(List.cons.inj e).2
theorem Bf(h:∀S,key (f S)=some (kQ r S))(n10:n<=10)(k:Nat):fR key [.lst ((bA n k r).map f)]=some (.new (.lst ((dF n k r).map f))):=by
 unfold fR nZ;dsimp only;have hl:=fU n10 k r;rw[if_pos (by rw[gp];lia),keys_map h];dsimp only;rw[if_pos (tR n k r),cT];have:(fun a b=>ltK key (f a) (f b))=fun a b=>lx (kQ r a) (kQ r b):=by
  funext a b
  exact cg (h a) (h b)
 rw[this];rfl
noncomputable def kR(r:List Tie)(S:List Int):Dp:=.t [.s (tupI S),.l (((bw r S).map Dat.int).map .s)]
theorem kT(r:List Tie)(S:List Int):(kR r S).dat=cutD r S:=by show Dat.tup [tupI S,.lst (Dp.bR _)]=_;rw[Dp.qV];rfl
theorem dS(r:List Tie)(L:List (List Int)):Dp.bR (L.map (kR r))=L.map (cutD r):=by rw[Dp.bJ,Lq];exact ME fun S _=>kT r S
theorem qu(n k:Nat)(n1:1<=n)(n10:n<=10)(k1:1<=k)(k6:k<=6)(N:List Tie)(hN:Net n k N)(t:Int):cK [b7 n k N,.int t]=some (.l ((dF n k (bE N t)).map (kR (bE N t)))):=by
 have hl:N.length<=60:=hN.1.len;have hs:=ou N t;have ends:Ends n (bE N t):=fun u hu=>hN.1.ends u (LZ.mp hu).1;have Im:∀u∈bE N t,u.a<=u.b:=fun u hu=>(Good.mem hN.1.good u (LZ.mp hu).1).2.1;have h5:=fU n10 k (bE N t)
 suffices w:Wq (nW (sE (eF p_ [(eV 0)]))
  (nW (sA 2 (eF kF [(e2 gIx (eV 0) (eC (.int 2))),(eV 1)]))
  (gE 3 (jc (iS (eF mG [(e2 gIx (eV 0) (eC (.int 0))),(eV 2),(e2 gIx (eV 0) (eC (.int 1)))])) 1 (bN 4) (pT [(pO (eV 4)),(kr kE [(eV 2),(eV 4)])]))
  (gF 100000 FK)))) [.sh (b7 n k N),.sh (.int t),.un,.un] fun p=>p=.l ((dF n k (bE N t)).map (kR (bE N t))) by
  obtain⟨p,e,rfl⟩:=P9 (n:=2) (m:=2) (ds:=[b7 n k N,.int t]) w rfl rfl;exact e
 refine PL (P5 (Oc (m_ (K_ rfl (L_ (Oi (qp n k n1 n10 k1 k6 N hN) ?_ rfl rfl))))));refine PL (Ob (Oc (m_ (M_ (K_ rfl (N8 (N_ (v:=aK N) ?_ rfl rfl rfl)))))) (by decide));refine m_ (K_ rfl (L_ (Og (qo N (by lia) t) (Oq ?_ (by trivial)) rfl rfl rfl rfl)));have Cp:Wi (iS (eF mG [(e2 gIx (eV 0) (eC (.int 0))),(eV 2),(e2 gIx (eV 0) (eC (.int 1)))])) [.sh (b7 n k N),.sh (.int t),.ow (aK (bE N t)),.un] fun ds ρ=>ds=(bA n k (bE N t)).map tupI/\ρ=[.sh (b7 n k N),.sh (.int t),.sh (aK (bE N t)),.un]:=by refine Px (Oc (m_ (M_ (K_ rfl (N8 (N_ (v:=.int (n:Nat)) ?_ rfl rfl rfl))))));refine m_ (OB rfl (m_ (M_ (K_ rfl (N8 (N_ (v:=.int (k:Nat)) ?_ rfl rfl rfl))))));exact L_ (Og (Be n k n1 n10 k1 _ ends Im (by lia)) (OS ⟨_,rfl,rfl,rfl⟩) rfl rfl rfl rfl)
 obtain⟨_,_,Cp,rfl,rfl⟩:=Cp;refine QI (P6 tupI (bA n k (bE N t)) (kR (bE N t)) (fun ρ=>∃c:Cell,ρ=[.sh (b7 n k N),.sh (.int t),.sh (aK (bE N t)),.un,c]) Cp (by unfold SZ;lia) ⟨_,rfl⟩ ?_ ?_) (by decide)
 ·rintro S hS ρ ⟨c,rfl⟩;refine⟨[.sh (b7 n k N),.sh (.int t),.sh (aK (bE N t)),.un,.sh (tupI S)],rfl,?_⟩;refine QA (Wpa.cons (Qe (K_ rfl ⟨rfl,?_⟩)));refine Wpa.cons (P4 (m_ (K_ rfl (m_ (K_ rfl (L_ ⟨_,_,_,tP (bE N t) (by lia) S,?_,rfl⟩))))));exact Wpa.nil ⟨by show 2<=SZ;unfold SZ;lia,rfl,_,rfl⟩
 rintro ρ ⟨c,rfl⟩;refine⟨rfl,_,rfl,?_⟩;refine Qp (kss:=(bA n k (bE N t)).map (kQ (bE N t))) ?_ (tR n k _) (by rw[gp];lia) ?_
 ·rw[dS];exact keys_map (oz _) _
 ·have:(fun a b:Dp=>ltP (fX FK) a b)=ltP (fX FK):=rfl;rw[cT];have:(fun a b=>ltP (fX FK) (kR (bE N t) a) (kR (bE N t) b))=fun a b=>lx (kQ (bE N t) a) (kQ (bE N t) b):=by
   funext a b
   unfold ltP;rw[kT,kT];exact cg (oz _ a) (oz _ b)
  rw[this];rfl
theorem oE(n k:Nat)(n1:1<=n)(n10:n<=10)(k1:1<=k)(k6:k<=6)(N:List Tie)(hN:Net n k N)(t:Int):mH [b7 n k N,.int t]=some (.new (.lst ((dF n k (bE N t)).map (cutD (bE N t))))):=
 tE (qu n k n1 n10 k1 k6 N hN t) (dS _ _)
theorem oF(n k:Nat)(n1:1<=n)(n10:n<=10)(R:List Tie)(hl:R.length<=1000):kI [.int (n:Nat),.int (k:Nat),aK R]=some (.new (.lst ((dF n k R).map (cutD R)))):=by
 have h5:=fU n10 k R;have ht5:(bG (n-1)).tail.length<=512:=by
  rw[List.length_tail,cU];have:=qq (p:=n-1) (by lia)
  lia
 apply Ot;unfold kI
 (refine Dm.Oo ?_ rfl rfl;and_intros)
 refine N9 (Ob (OG (L_ (Om (Oq ?_ (by trivial)) rfl rfl (by decide)))) (by decide));refine N9 (OE (Px (Oc (m_ (K_ rfl (L_ (Og (u_ n n1 n10) (OS ⟨_,rfl,?_⟩) rfl rfl rfl rfl)))))));refine OI tupI _ _ (bG (n-1)).tail _ _ _ _ _ (fun p q ρ=>∃c4 c5:Cell,ρ=[.sh (.int (n:Nat)),.sh (.int (k:Nat)),.sh (aK R),.ow (.lst ((p.filter fun S=>decide ((bw R S).length<k)).map (kO R))),c4,c5]) ⟨_,_,rfl⟩ ?_ ?_
 ·rintro p S q ρ e ⟨c4,c5,rfl⟩;have hp:p.length<=512:=by rw[e,KL]at ht5;lia
  refine Dm.cJ rfl (by trivial) ?_;unfold x9;refine N9 (Ob (Oc (m_ (K_ rfl (m_ (K_ rfl (L_ (Og (Ba R hl S) (Oq ?_ (by trivial)) rfl rfl rfl rfl))))))) (by decide));refine Ox (Of (M_ (Oj (m_ (OB rfl (L_ (ON (kK:=Dat.int) (xs:=bw R S) ?_ rfl)))))));refine K_ rfl (OT (Oa ?_) rfl rfl);have ef:(p++[S]).filter (fun S=>decide ((bw R S).length<k))=p.filter (fun S=>decide ((bw R S).length<k))++if (bw R S).length<k then [S] else []:=by rw[Np,LW];by_cases h:(bw R S).length<k<;>simp[h]
  rw[ef];by_cases h:(bw R S).length<k
  ·rw[decide_eq_true (show ((bw R S).length:Int)<(k:Int) by lia),if_pos h];refine O6 ?_;refine O0 (OR (m_ (Oj (m_ (OB rfl (L_ (ON (kK:=Dat.int) (xs:=bw R S) ?_ rfl))))))) rfl;refine m_ (K_ rfl (m_ (OB rfl (L_ (Om (Oh (kD ⟨.sh (tupI S),.sh (yl R S),?_⟩ rfl (by trivial) ?_)) rfl rfl (by show 3<=SZ;unfold SZ;lia))))))
   ·rw[LS];rfl
   ·rw[gp];have:=LY (fun S=>decide ((bw R S).length<k)) p;unfold SZ;lia
  ·rw[decide_eq_false (show ¬((bw R S).length:Int)<(k:Int) by lia),if_neg h,K4];exact OH (Ou ⟨_,_,rfl⟩)
 ·rintro ρ ⟨c4,c5,rfl⟩;refine Ol ?_;have es:(bG (n-1)).tail.filter (fun S=>decide ((bw R S).length<k))=bA n k R:=rfl;rw[es];have hc:(dF n k R).length<=512:=by
   rw[show (dF n k R).length=(bA n k R).length from (bg _ _).length_eq];exact h5
  have Cp:Wi (iS (eB (fR pY) [(eV 3)])) [.sh (.int (n:Nat)),.sh (.int (k:Nat)),.sh (aK R),.ow (.lst ((bA n k R).map (kO R))),c4,c5] fun ds ρ=>ds=(dF n k R).map (kO R)/\ρ=[.sh (.int (n:Nat)),.sh (.int (k:Nat)),.sh (aK R),.ow (.lst ((bA n k R).map (kO R))),c4,c5]:=
   Px (Oj (m_ (OB rfl (L_ ⟨_,_,rfl,Bf (ym R) n10 k,OS ⟨_,rfl,rfl,rfl⟩⟩))))
  obtain⟨_,_,Cp,rfl,rfl⟩:=Cp;refine PF (kO R) (dF n k R) (fun _=>true) id (cutD R) (fun S=>([.sh (.int (n:Nat)),.sh (.int (k:Nat)),.sh (aK R),.ow (.lst ((bA n k R).map (kO R))),c4,c5,.sh (.int ((bw R S).length:Nat)),.sh (tupI S),.sh (yl R S)]:Env)) (O5 ?_) Cp (fun S=>rfl) (fun S T=>rfl) (fun S=>rfl) (by unfold SZ;lia) (fun S _=>Pr ⟨rfl,rfl⟩) fun S _ _=>?_
  ·rw[L5.mpr (fun _ _=>rfl),MX]
  ·exact OR (m_ (K_ rfl (m_ (K_ rfl (L_ (Om (Oh ⟨rfl,rfl⟩) rfl rfl (by show 2<=SZ;unfold SZ;lia)))))))
theorem Bg(l:List Int):gj (l.map Dat.int) (l.map Dat.int)=true:=by
 induction l with
 |nil=>rfl
 |cons a l ih=>rw[KA,gj,ih];simp[eqD]
theorem FH(r:List Tie)(S:List Int):eqD (cutD r S) (cutD r S)=true:=by simp only[cutD,tupI,eqD,gj,Bg,N2,Bool.and_self]
theorem iA(r:List Tie)(L:List (List Int)):eqD (.lst (L.map (cutD r))) (.lst (L.map (cutD r)))=true:=by
 rw[eqD]
 induction L with
 |nil=>rfl
 |cons a l ih=>rw[KA,gj,ih,FH];rfl
theorem iB(r:List Tie)(L:List (List Int)):okD 8 (.lst (L.map (cutD r)))=true:=Cr _ L fun S=>by
 have h:∀(f:Nat) (l:List Int),(l.map Dat.int).all (okD (f+1))=true:=fun f l=>by rw[Lx];intro x hx;obtain⟨i,_,rfl⟩:=Lz.mp hx;rfl
 simp only[cutD,tupI,okD,MY,List.all_nil,h,N2]
theorem tS:∀{r:List Tie} {ms:List Int},bS k r ms->1<=k->(∀t∈r,t.a≠t.b)->r≠[]->keep r ms≠[]
 |[],_,_,_,_,h=>absurd rfl h
 |t::r,[],al,_,_,_=>al.elim
 |t::r,m::ms,al,k1,ne,_=>by
  rw[fT];split
  ·simp
  ·rename_i h;cases r with
   |cons u q=>exact tS al.1 k1 (fun x hx=>ne x (Kw _ hx)) (by simp)
   |nil=>
    exfalso;rcases al.2 with⟨_,c⟩ | ⟨c,_⟩
    ·have:=c 1 (Int.le_refl _) k1;cases ms with
     |nil=>exact ne t Kz (Con.nil this)
     |cons _ _=>exact al.1.elim
    ·lia
theorem yo(x many:Int)(m0:1<=many)(m1:many<=60):∃(r:List Tie) (x':Int),qf [aE x,.int 10,.int many]=some (.new (aK r),aE x')/\Good 10 0 r/\r.length<=60/\r≠[]/\(∀t∈r,t.a≠t.b)/\∀t∈r,t.m<=Z30:=by
 have sz:1000<=SZ:=by decide
 suffices hh:WrM (qf [aE x,.int 10,.int many]) fun v d=>∃(r:List Tie) (x':Int),v=.new (aK r)/\d=aE x'/\Good 10 0 r/\r.length<=60/\r≠[]/\(∀t∈r,t.a≠t.b)/\∀t∈r,t.m<=Z30 by obtain⟨v,d,h1,r,x',rfl,rfl,h2⟩:=hh;exact⟨r,x',h1,h2⟩
 unfold qf;refine OW ?_ rfl rfl;and_intros;refine N9 (Ob (OG (L_ (Om ?_ rfl rfl (by decide)))) (by decide));refine Oq ?_ (by trivial);refine N9 (Ob ?_ (by decide));refine Ov (m:=9) rfl (by decide) (by decide) rfl fun mo x1 h0 h1 ρ3 e=>?_;subst e;refine Od ?_ (by trivial);refine N9 (OE (Pc (K_ rfl (cG.mk ⟨?_,by unfold BIG;lia⟩))));refine OI (fun i:Nat=>Dat.int (0+(i:Nat))) _ _ (KY many.toNat) _ _ _ _ _ (fun p q ρ=>∃(x mo:Int) (r:List Tie) (c5 c6 c7:Cell),ρ=[.ow (aE x),.sh (.int 10),.sh (.int many),.ow (aK r),.sh (.int mo),c5,c6,c7]/\Good 10 0 r/\r.length=p.length/\(∀u∈r,u.m<mo/\u.a≠u.b)/\0<=mo/\mo<=9+4*(p.length:Int)) ⟨_,_,[],_,_,_,rfl,trivial,rfl,fun u hu=>(by cases hu),h0,by simp;lia⟩ ?_ ?_
 ·rintro p i q ρ e ⟨x,mo,r,c5,c6,c7,rfl,hg,hl,hu,hm,hM⟩;have lp:p.length<60:=by
   have:=congrArg List.length e;simp at this
   lia
  refine Dm.cJ rfl (by trivial) ?_;unfold x_;refine N9 (Ob ?_ (by decide));refine Ov (m:=10) rfl (by decide) (by decide) rfl fun a x1 a0 a1 ρ3 e3=>?_;subst e3;refine Od ?_ (by trivial);refine N9 (Ob (M_ (M_ (M_ (K_ rfl (N8 (Oe ?_ rfl rfl)))))) (by decide));refine O7 (M_ (K_ rfl (N8 (OO (cG.mk (jF ?_ rfl rfl (by decide) (by decide))) rfl rfl)))) rfl;have hv:=cj x1 (10-1) (by decide)
  generalize x1 % (10-1)=d at hv
  refine Oe (K_ rfl (Oz ?_ rfl rfl (by decide))) rfl rfl;obtain⟨hb0,hb1,hba⟩:=u9 10 a d (by decide) a0 a1 hv.1 hv.2
  generalize (a+1+d) % 10=b at hb0 hb1 hba
  refine Od ?_ (by trivial);refine N9 (O0 (OR (m_ (K_ rfl (m_ (Oj ?_))))) rfl);refine m_ (K_ rfl (m_ (K_ rfl (L_ (OY ?_ rfl)))));refine m_ (Oj (m_ (K_ rfl (m_ (K_ rfl (L_ (OU ?_ rfl)))))));refine L_ (Om ?_ rfl rfl (Ld rfl));refine Oh (kD (ds:=r.map bD) (ρ3:=[.ow (aE (x1 / (10-1))),.sh (.int 10),.sh (.int many),.ow (aK (r++[⟨mo,if b<a then b else a,if b>a then b else a⟩])),.sh (.int mo),.sh (.int (0+(i:Nat))),.sh (.int a),.sh (.int b)]) ?_ rfl (by unfold aK;rw[LS];rfl) (by rw[gp];lia));refine Ob (M_ (M_ (K_ rfl (N8 (Oe ?_ rfl rfl))))) (by decide);refine Ov (m:=3) rfl (by decide) (by decide) rfl fun d x3 d0 d1 ρ3 e3=>?_;subst e3;refine Oe (Od ⟨x3,mo+1+d,r++[⟨mo,if b<a then b else a,if b>a then b else a⟩],_,_,_,rfl,?_,by simp[hl],fun u hu'=>?_,by lia,by simp;lia⟩ (by trivial)) rfl rfl
  ·refine hg.snoc (fun u h=>(hu u h).1) hm rfl ?_ (tM a b) ?_
   ·show 0<=(if b<a then b else a)
    split<;>lia
   ·show (if b>a then b else a)<10;split<;>lia
  ·rcases K3.mp hu' with h | h
   ·have:=hu u h;exact⟨by lia,this.2⟩
   ·rw[KS.mp h];refine⟨(by show mo<_;lia),?_⟩;show (if b<a then b else a)≠(if b>a then b else a);split<;>split<;>lia
 ·rintro ρ ⟨x,mo,r,c5,c6,c7,rfl,hg,hl,hu,hm,hM⟩;rw[Lk]at hl hM;refine Ol (OB rfl (Pj ?_ rfl));refine⟨_,rfl,r,x,rfl,rfl,hg,by lia,fun z=>?_,fun t ht=>(hu t ht).2,fun t ht=>?_⟩
  ·rw[z]at hl;simp at hl;lia
  ·have:=(hu t ht).1;unfold Z30
   lia
theorem yp(x:Int):∃x':Int,qg [aE x]=some (.val (.bl true),aE x'):=by
 suffices hh:WrM (qg [aE x]) fun v d=>∃x':Int,v=.val (.bl true)/\d=aE x' by obtain⟨v,d,h1,x',rfl,rfl⟩:=hh;exact⟨x',h1⟩
 unfold qg;refine OW ?_ rfl rfl;and_intros;refine Ow (fun ρ=>∃(x:Int) (K:List Tie),Net 10 6 K/\K≠[]/\ρ=[.ow (aE x),.sh (b7 10 6 K),.un]) ?_ ?_
 ·refine Ob (Oc (m_ (N8 (m_ (O8 (m_ (N8 (m_ (M_ (N8 ?_))))) rfl))))) (by decide);refine Ov (m:=21) rfl (by decide) (by decide) rfl fun v x1 v0 v1 ρ3 e=>?_;subst e;obtain⟨r,y,er,gr,lr,ne,Ii,mr⟩:=yo x1 (40+v) (by lia) (by lia);have hr:=Rcd.of gr lr mr;obtain⟨ms,_,al⟩:=d_ 10 6 (by decide) (by decide) (by decide) r hr.ends (by lia);have FJ:=ye 10 6 (by decide) (by decide) (by decide) r ms hr.ends (by lia) al;have net:Net 10 6 (keep r ms):=⟨hr.sub (iy r ms),_,kL al,fun z=>by simpa using(LZ.mp z).2⟩
  refine Oe (L_ (O9 er ?_ rfl rfl (by trivial))) rfl rfl;refine m_ (N8 (L_ (Og FJ ?_ rfl rfl rfl (by trivial))));exact Od ⟨y,keep r ms,net,tS al (by decide) Ii ne,rfl⟩ (by trivial)
 rintro ρ ⟨x,K,net,hK,rfl⟩;have lK:=net.rc.len;have lK0:0<K.length:=List.length_pos_iff.mpr hK;refine Ow (fun ρ=>∃(x t:Int),ρ=[.ow (aE x),.sh (b7 10 6 K),.sh (.int t)]) ?_ ?_
 ·refine Ob (M_ (M_ (M_ (K_ rfl (N8 (N_ (v:=aK K) ?_ rfl rfl rfl)))))) (by decide);refine O7 (Oj (m_ (M_ (K_ rfl (N8 (N_ (v:=aK K) (L_ (ON (kK:=bD) (xs:=K) (cG.mk (jF ?_ rfl rfl (by lia) (by unfold gu;lia))) rfl)) rfl rfl rfl)))))) rfl;have hv:=cj x (K.length:Int) (by lia);refine N_ ?_ rfl rfl (yh K _ hv.1 hv.2);refine N8 (N_ ?_ rfl rfl rfl);exact Od ⟨_,_,rfl⟩ (by trivial)
 rintro ρ ⟨x,t,rfl⟩;have ls:=ou K t;refine Ol (M_ (Oc (m_ (K_ rfl (m_ (K_ rfl (L_ (Og (oE 10 6 (by decide) (by decide) (by decide) (by decide) K net t) ?_ rfl rfl rfl rfl))))))));refine Oc (m_ (N8 (m_ (N8 (m_ (Oc (m_ (M_ (K_ rfl (N8 (N_ (v:=aK K) ?_ rfl rfl rfl)))))))))));refine m_ (K_ rfl (L_ (Og (i6 K (by lia) t) ?_ rfl rfl rfl rfl)));refine L_ (Og (oF 10 6 (by decide) (by decide) (bE K t) (by lia)) ?_ rfl rfl rfl rfl);exact Qj (iB _ _) (iA _ _) (OL ⟨_,rfl,_,rfl,rfl⟩) rfl rfl
noncomputable def Bh(r:List Tie)(S:List Int):Dp:=.t [.s (tupI S),.l (((bw r S).map Dat.int).map .s++[.s (.int 0)])]
noncomputable def b8(r:List Tie)(L:List (List Int))(i:Nat):List Dp:=(L.take i).map (Bh r)++(L.drop i).map (kR r)
theorem kU(r:List Tie)(L:List (List Int))(i:Nat):(b8 r L i).length=L.length:=by
 unfold b8;rw[KL,gp,gp,Lh,MA]
 lia
theorem rK(r:List Tie)(L:List (List Int))(i:Nat)(h:i<L.length):(b8 r L i)[i]?=some (kR r L[i]):=by
 unfold b8;have e:((L.take i).map (Bh r)).length=i:=by rw[gp,Lh];lia
 rw[KI (by lia),e,Ma,KZ,List.getElem?_drop];simp[h]
theorem rL(r:List Tie)(L:List (List Int))(i:Nat)(h:i<L.length):(b8 r L i).set i (Bh r L[i])=b8 r L (i+1):=by
 unfold b8;have e:((L.take i).map (Bh r)).length=i:=by rw[gp,Lh];lia
 rw[Lf _ _ (by lia),e,Ma,Lp h,KA,List.set_cons_zero,List.take_succ_eq_append_getElem h,LS,Ln];rfl
theorem cX(L:List Dat)(i:Nat)(h:i<=L.length):cut L (some (i:Int)) none=L.drop i:=by
 unfold cut sIx;have e:(if (i:Int)<0 then max ((i:Int)+(L.length:Nat)) 0 else min (i:Int) (L.length:Nat)).toNat=i:=by rw[if_neg (by lia)];lia
 dsimp only;rw[e,LG (by rw[MA];exact Nat.le_refl _)]
theorem qv(r:List Tie)(L:List (List Int))(i:Nat)(h:i<=L.length):cut (Dp.bR (b8 r L i)) (some (i:Int)) none=cut (L.map (cutD r)) (some (i:Int)) none:=by
 have l1:(Dp.bR (b8 r L i)).length=L.length:=by rw[Dp.bJ,gp,kU]
 rw[cX _ _ (by lia),cX _ _ (by rw[gp];lia)];unfold b8;rw[Dp.bJ,LS,List.drop_append_of_le_length (by rw[gp,gp,Lh];lia),MW (by rw[gp,gp,Lh];lia),LK,<- Dp.bJ,dS,N1]
theorem Bj(L:List (List Int))(r:List Tie)(i:Nat)(h:i<=L.length):cut (L.map (cutD r)) (some (i:Int)) none=(L.drop i).map (cutD r):=by rw[cX _ _ (by rw[gp];lia),N1]
theorem yq(S:List Int)(at_ x t:Int)(n k:Nat)(n1:1<=n)(n10:n<=10)(k1:1<=k)(k6:k<=6)(K:List Tie)(net:Net n k K){c6:Cell}(h6:c6=.ow (aK K)\/c6=.sh (aK K))(c8 c9 c10 c11 c12:Cell){N:Env->Prop}{R:RV->Env->Prop}{B C:Env->Prop}
  (nx:∀c8 c9 c10 c11 c12,N [.sh (.lst (S.map Dat.int)),.ow (aE x),.sh (.int at_),.sh (.int (n:Nat)),.sh (.int (k:Nat)),.sh (b7 n k K),.sh (aK K),.sh (.int t),c8,c9,c10,c11,c12]) :
  Ws rH [.sh (.lst (S.map Dat.int)),.ow (aE x),.sh (.int at_),.sh (.int (n:Nat)),.sh (.int (k:Nat)),.sh (b7 n k K),c6,.sh (.int t),c8,c9,c10,c11,c12] N R B C:=by
 have lK:=net.rc.len;have ls:=ou K t;have hc:(dF n k (bE K t)).length<=512:=by rw[show (dF n k (bE K t)).length=(bA n k (bE K t)).length from (bg _ _).length_eq];exact fU n10 k _
 unfold rH;have hs:We (eF kG [(eV 6),(eV 7)]) [.sh (.lst (S.map Dat.int)),.ow (aE x),.sh (.int at_),.sh (.int (n:Nat)),.sh (.int (k:Nat)),.sh (b7 n k K),c6,.sh (.int t),c8,c9,c10,c11,c12] fun v ρ=>v=.new (aK (bE K t))/\ρ=[.sh (.lst (S.map Dat.int)),.ow (aE x),.sh (.int at_),.sh (.int (n:Nat)),.sh (.int (k:Nat)),.sh (b7 n k K),.sh (aK K),.sh (.int t),c8,c9,c10,c11,c12]:=by
  rcases h6 with rfl | rfl
  ·exact Oc (m_ (OB rfl (m_ (K_ rfl (L_ (Og (i6 K (by lia) t) ⟨rfl,rfl⟩ rfl rfl rfl rfl))))))
  ·exact Oc (m_ (K_ rfl (m_ (K_ rfl (L_ (Og (i6 K (by lia) t) ⟨rfl,rfl⟩ rfl rfl rfl rfl))))))
 obtain⟨_,_,hs,rfl,rfl⟩:=hs;refine N9 (Ob (Oc (m_ (K_ rfl (m_ (K_ rfl (m_ ⟨_,_,hs,?_⟩)))))) (by decide));refine L_ (Og (oF n k n1 n10 (bE K t) (by lia)) (Oq ?_ (by trivial)) rfl rfl rfl rfl);have ec:=qu n k n1 n10 k1 k6 K net t;have ec2:=oE n k n1 n10 k1 k6 K net t;have lR:∀S,(bw (bE K t) S).length<=60:=fun S=>by have:=Bd (bE K t) S;lia
 have lS:∀S∈dF n k (bE K t),S.length<=20:=fun S hS=>by
  have:=(dR (n-1) S (List.mem_of_mem_tail (LZ.mp ((bg _ _).mem_iff.mp hS)).1)).2
  lia
 generalize bE K t=T at *
 generalize dF n k T=L at *
 refine Qq (m_ (K_ rfl (m_ (K_ rfl (L_ (Fv.mk ec ?_ rfl (by trivial))))))) (by decide);have e0:(Dp.l (L.map (kR T))).dat=.lst (L.map (cutD T)):=congrArg Dat.lst (dS _ _);refine Qy (ρ':=[.sh (.lst (S.map Dat.int)),.sh (aE x),.sh (.int at_),.sh (.int (n:Nat)),.sh (.int (k:Nat)),.sh (b7 n k K),.sh (aK K),.sh (.int t),.sh (.lst (L.map (cutD T))),.sh (.lst (L.map (cutD T))),c10,c11,c12].map shC) ?_ ?_ (by unfold see;rw[e0];rfl)
 ·refine OP (OA (Of (OQ (K_ rfl (OJ (v:=.val (.bl true)) (Oa (OH ?_)) rfl rfl)))));exact Of (M_ (K_ rfl (K_ rfl (O3 (iB _ _) (iA _ _) (Oa rfl) rfl rfl))))
 refine Qg (QG (m:=(L.length:Nat)) (Oj (m_ (K_ rfl (L_ (ON (kK:=id) (xs:=Dp.bR (L.map (kR T))) ?_ ?_))))) rfl ⟨by unfold BIG;lia,by unfold BIG;lia⟩ ?_)
 ·rw[dS,gp];rfl
 ·rw[MX];rfl
 rw[MT];refine Qo (fun i:Nat=>Dat.int (0+(i:Nat))) _ _ (KY L.length) (fun p q ρ P=>∃c10 c11 c12:Cell,ρ=[.sh (.lst (S.map Dat.int)),.ow (aE x),.sh (.int at_),.sh (.int (n:Nat)),.sh (.int (k:Nat)),.sh (b7 n k K),.sh (aK K),.sh (.int t),.ow (.lst (L.map (cutD T))),.un,c10,c11,c12]/\P=.l (b8 T L p.length)) ⟨_,_,_,rfl,by unfold b8;rfl⟩ ?_ ?_
 ·rintro l i q ρ P e ⟨c10,c11,c12,rfl,rfl⟩;obtain⟨hi,hin⟩:=fD e;refine⟨[.sh (.lst (S.map Dat.int)),.ow (aE x),.sh (.int at_),.sh (.int (n:Nat)),.sh (.int (k:Nat)),.sh (b7 n k K),.sh (aK K),.sh (.int t),.ow (.lst (L.map (cutD T))),.un,.sh (.int (0+(i:Nat))),c11,c12],rfl,?_⟩;subst hi;have hL:=lR L[l.length];unfold ya;refine Qh (Ql (m:=l.length) (d:=tupI L[l.length]) (items:=((bw T L[l.length]).map Dat.int).map .s) (w:=.int 0) (K_ rfl rfl) rfl ?_ (rK T L _ hin) ?_ (N8 rfl) ?_ rfl rfl rfl rfl (by rw[gp,gp];unfold SZ;lia) (by decide))
  ·rw[kU,NC,Fw (by lia) (by lia),MT]
  ·refine OP (OA (Of (OQ (K_ rfl (OJ (v:=.val (.bl true)) (Oa (OH ?_)) rfl rfl)))));refine OP (OA (Of (Oc (m_ (K_ rfl (L_ (Oi (ds:=[.lst ((bw T L[l.length]).map Dat.int)]) (yf _ (by lia)) (Oa (OH ?_)) ?_ rfl)))))))
   ·refine OA (Of (Oc (m_ (K_ rfl (L_ (Oi (yg _ ?_) (Oa rfl) rfl rfl))))));have:=lS _ (MC hin)
    lia
   ·show some [Dat.lst (Dp.bR _)]=_;rw[Dp.qV]
  have es:(b8 T L l.length).set l.length (.t [.s (tupI L[l.length]),.l (((bw T L[l.length]).map Dat.int).map .s++[.s (.int 0)])])=b8 T L (l.length+1):=rL T L _ hin;rw[es];refine Qs (ρ':=[.sh (.lst (S.map Dat.int)),.sh (aE x),.sh (.int at_),.sh (.int (n:Nat)),.sh (.int (k:Nat)),.sh (b7 n k K),.sh (aK K),.sh (.int t),.sh (.lst (L.map (cutD T))),.sh (.lst (Dp.bR (b8 T L (l.length+1)))),.sh (.int (0+(l.length:Nat))),.sh (tupI L[l.length]),.un]) ?_ rfl;refine Of (M_ (Pp (K_ rfl (Wp.some (M_ (K_ rfl (N8 (Oe (cG.mk (Wp.none (Wsl.mk ?_ rfl))) rfl rfl))))))));refine Pp (K_ rfl (Wp.some (M_ (K_ rfl (N8 (Oe (cG.mk (Wp.none (Wsl.mk ?_ rfl))) rfl rfl))))));have ei:(0+(l.length:Int)+1)=((l.length+1:Nat):Int):=by lia
  rw[ei,qv T L _ (by lia),Bj _ _ _ (by lia)];refine O3 (iB _ _) (iA _ _) (Oa (OH (QB ⟨_,_,_,rfl,?_⟩))) rfl rfl;rw[KL];rfl
 rintro ρ P ⟨c10,c11,c12,rfl,rfl⟩;refine QC ?_;refine Ox (Of (M_ (Oc (m_ (K_ rfl (m_ (K_ rfl (L_ (Og ec2 ?_ rfl rfl rfl rfl)))))))));refine OB rfl (O3 (iB _ _) (iA _ _) (Oa (OH (Ou (nx _ _ _ _ _)))) rfl rfl)
theorem PX{f:List Dat->Option (RV×Dat)}{ρ1 ρ2 ρ3:Env}{xs:List Val}{d0 d d':Dat}{ds:List Dat}{v:RV}(h5:f (d::ds)=some (v,d'))(q:Q v.bF ρ3)(h2:ρ1[j]?=some (.ow d0))(h3:tks ρ1 xs=some (ds,ρ2))(h4:ρ2[j]?=some (.ow d))(hf:(flat v.dat&&nN d')=true)(hn:ρ1.set j (.ow d')=ρ3):WFm f j ρ1 xs Q:=
 ⟨_,_,_,_,_,_,h2,h3,h4,h5,by rw[if_pos hf,hn];exact q⟩
theorem FL(n k:Nat)(r:List Tie):eqD (b7 n k r) (b7 n k r)=true:=by unfold b7;show gj _ _=true;simp[gj,eqD];exact FA r
theorem FO(n k:Nat)(r:List Tie):okD 8 (b7 n k r)=true:=by show ([_,_,_]:List Dat).all (okD 7)=true;simp only[MY,List.all_nil,N2];show (true&&(true&&((r.map bD).all (okD 6))))=true;rw[List.all_map];exact Lx.mpr fun t _=>rfl
theorem Bk(S:List Int)(at_:Int)(h0:0<=at_)(h1:at_<900)(c1 c3 c4 c5 c6 c7 c8 c9 c10 c11 c12:Cell){N:Env->Prop}{R:RV->Env->Prop}{B C:Env->Prop}(nx:∀c1 c2 c3 c4 c5 c6 c7 c8 c9 c10 c11 c12,N [.sh (.lst (S.map Dat.int)),c1,c2,c3,c4,c5,c6,c7,c8,c9,c10,c11,c12]) :
  Ws rJ [.sh (.lst (S.map Dat.int)),c1,.sh (.int at_),c3,c4,c5,c6,c7,c8,c9,c10,c11,c12] N R B C:=by
 obtain⟨p,ep⟩:=jE S at_ h0 (by lia);obtain⟨n,x1,en,n1,n10⟩:=A5 p;obtain⟨n,rfl⟩:∃m:Nat,n=m:=⟨n.toNat,by lia⟩
 unfold rJ;refine N9 (Ob (Oc ?_) (by decide));refine m_ (K_ rfl (m_ (K_ rfl (L_ (Og ep (Oq ?_ (by trivial)) rfl rfl rfl (by trivial))))));refine N9 (Ob (O8 (L_ (O9 en ?_ rfl rfl (by trivial))) rfl) (by decide));refine Od ?_ (by trivial);refine Ow (fun ρ=>∃(k:Nat) (x2:Int),(1<=k/\k<=6)/\ρ=[.sh (.lst (S.map Dat.int)),.ow (aE x2),.sh (.int at_),.sh (.int (n:Nat)),.sh (.int (k:Nat)),c5,c6,c7,c8,c9,c10,c11,c12]) ?_ ?_
 ·refine Ob (M_ (N8 ?_)) (by decide);refine Ov (m:=6) rfl (by decide) (by decide) rfl fun t x2 t0 t1 ρ3 e=>?_;subst e;refine Oe (Od ⟨(1+t).toNat,x2,by lia,?_⟩ rfl) rfl rfl;rw[Int.toNat_of_nonneg (by lia)];rfl
 rintro ρ ⟨k,x2,⟨k1,k6⟩,rfl⟩;obtain⟨y,ey⟩:=jE S (at_+1) (by lia) (by lia);refine Ow (fun ρ=>∃K:List Tie,Net n k K/\ρ=[.sh (.lst (S.map Dat.int)),.ow (aE x2),.sh (.int at_),.sh (.int (n:Nat)),.sh (.int (k:Nat)),.sh (b7 n k K),c6,c7,c8,c9,c10,c11,c12]) ?_ ?_
 ·refine Ob (Oc (m_ (K_ rfl (m_ (QF (m_ (Oc ?_))))))) (by decide);refine m_ (K_ rfl (m_ (M_ (K_ rfl (N8 (Oe ?_ rfl rfl))))));refine L_ (Og ey ?_ rfl rfl rfl (by trivial));refine m_ (K_ rfl (m_ ?_));obtain⟨most,em,m0,m30⟩:∃most:Int,gIx (.lst [.int 16,.int 8]) (.int (b2i (decide (6<(n:Int)))))=some (.val (.int most))/\0<=most/\most<=60:=by
   by_cases q:6<(n:Int)
   ·rw[decide_eq_true q];exact⟨8,rfl,by decide,by decide⟩
   ·rw[decide_eq_false q];exact⟨16,rfl,by decide,by decide⟩
  obtain⟨r,y',er,gr,lr,mr⟩:=uV y n most (by lia) (by lia) m0 m30;have hr:=Rcd.of gr (by lia) mr;obtain⟨ms,_,al⟩:=d_ n k (by lia) k1 k6 r hr.ends (by have:=hr.len;lia);have FJ:=ye n k (by lia) k1 k6 r ms hr.ends (by have:=hr.len;lia) al;have net:Net n k (keep r ms):=⟨hr.sub (iy r ms),_,kL al,fun z=>by simpa using(LZ.mp z).2⟩
  refine M_ (OG (m_ (N8 (m_ (N8 (L_ (Om ?_ rfl rfl (by decide))))))));refine Oj (m_ (M_ (K_ rfl (N8 (OZ (L_ (Py ?_ rfl)) rfl rfl)))));refine N_ ?_ rfl rfl em;refine L_ ⟨_,_,_,_,_,rfl,rfl,er,?_⟩;refine m_ (K_ rfl (L_ (Og FJ ?_ rfl rfl rfl (by trivial))));exact Od ⟨_,net,rfl⟩ (by trivial)
 rintro ρ ⟨K,net,rfl⟩;have lK:=net.rc.len;refine N9 (Ob (Oj (m_ (M_ (K_ rfl (N8 (N_ (v:=aK K) (L_ (Pz (xs:=K.map bD) (Oq ?_ (by trivial)) rfl)) rfl rfl rfl)))))) (by decide));obtain⟨y2,ey2⟩:=jE S (at_+2) (by lia) (by lia);refine N9 (Ob (Oc ?_) (by decide));refine m_ (K_ rfl (m_ (M_ (K_ rfl (N8 (Oe (L_ (Og ey2 (Oq ?_ (by trivial)) rfl rfl rfl (by trivial))) rfl rfl))))));have m0:∀t∈K,0<=t.m:=fun t ht=>(net.rc.ok t ht).1;obtain⟨t1,z1,et1,_⟩:=kM y2 K m0 (by lia);obtain⟨t2,z2,et2,_⟩:=kM z1 K m0 (by lia);refine N9 (OE (Px (OG (m_ (N8 (m_ (O8 (m_ (OB rfl (L_ (PX et1 ?_ rfl rfl rfl rfl (by trivial)))) ) rfl)))))));refine m_ (O8 (m_ (OB rfl (L_ (PX et2 ?_ rfl rfl rfl rfl (by trivial))))) rfl);refine L_ (Om (OS ⟨_,rfl,?_⟩) rfl rfl (by exact Ld rfl));refine OI Dat.int _ _ [0,t1,t2] _ _ _ _ _ (fun p q ρ=>∃c6 c7 c8 c9 c10 c11 c12:Cell,(c6=.ow (aK K)\/c6=.sh (aK K))/\ρ=[.sh (.lst (S.map Dat.int)),.ow (aE z2),.sh (.int at_),.sh (.int (n:Nat)),.sh (.int (k:Nat)),.sh (b7 n k K),c6,c7,c8,c9,c10,c11,c12]) ⟨_,_,_,_,_,_,_,.inl rfl,rfl⟩ ?_ ?_
 ·rintro p t q ρ e ⟨c6,c7,c8,c9,c10,c11,c12,h6,rfl⟩;refine Dm.cJ rfl (by trivial) ?_;exact yq S at_ z2 t n k (by lia) (by lia) k1 k6 K net h6 _ _ _ _ _ fun c8 c9 c10 c11 c12=>⟨_,_,_,_,_,_,_,.inr rfl,rfl⟩
 rintro ρ ⟨c6,c7,c8,c9,c10,c11,c12,h6,rfl⟩;have e0:bE K 0=K:=L5.mpr fun t ht=>decide_eq_true (m0 t ht);have ec:=oE n k (by lia) (by lia) k1 k6 K net 0;rw[e0]at ec;refine Ox (OP (Of (M_ (Oc (m_ (K_ rfl (L_ (Og (f:=fun ds=>mH (ds++[.int 0])) ec ?_ rfl rfl rfl rfl))))))));have hd:We (eF kI [(eV 3),(eV 4),(eV 6)]) [.sh (.lst (S.map Dat.int)),.ow (aE z2),.sh (.int at_),.sh (.int (n:Nat)),.sh (.int (k:Nat)),.sh (b7 n k K),c6,c7,c8,c9,c10,c11,c12] fun v ρ=>v=.new (.lst ((dF n k K).map (cutD K)))/\ρ=[.sh (.lst (S.map Dat.int)),.ow (aE z2),.sh (.int at_),.sh (.int (n:Nat)),.sh (.int (k:Nat)),.sh (b7 n k K),.sh (aK K),c7,c8,c9,c10,c11,c12]:=by
  rcases h6 with rfl | rfl
  ·exact Oc (m_ (K_ rfl (m_ (K_ rfl (m_ (OB rfl (L_ (Og (oF n k (by lia) (by lia) K (by lia)) ⟨rfl,rfl⟩ rfl rfl rfl rfl))))))))
  ·exact Oc (m_ (K_ rfl (m_ (K_ rfl (m_ (K_ rfl (L_ (Og (oF n k (by lia) (by lia) K (by lia)) ⟨rfl,rfl⟩ rfl rfl rfl rfl))))))))
 obtain⟨_,_,hd,rfl,rfl⟩:=hd;refine⟨_,_,hd,?_⟩;refine O3 (iB _ _) (iA _ _) (Oa (OH ?_)) rfl rfl;refine Of (M_ (K_ rfl (OR (m_ (K_ rfl (m_ (K_ rfl (m_ (K_ rfl (L_ (Om ?_ rfl rfl (by exact Ld rfl))))))))))));refine O3 (d:=b7 n k K) ?_ ?_ (Oa (OH (Ou (nx ..)))) rfl rfl
 ·exact FO n k K
 ·exact FL n k K
theorem math(ns:List Int)(h:ns.length<=63):mK [.lst (ns.map Dat.int)]=some (.val (.bl true)):=by
 apply Ot;unfold mK
 (refine Dm.Oo ?_ rfl rfl;and_intros)
 obtain⟨x,ep⟩:=jE [gy ns] 0 (Int.le_refl _) (by decide);refine N9 (Ob (Oc (m_ (OG (m_ (Oj (m_ (K_ rfl (L_ (QH (ns:=ns) (L_ (Om ?_ rfl rfl (Ld rfl))) rfl))))))))) (by decide));refine m_ (N8 (L_ (Og ep (Oq ?_ (by trivial)) rfl rfl rfl (by trivial))));refine Ow (fun ρ=>∃c1:Cell,ρ=[.sh (.lst (ns.map Dat.int)),c1,.un,.un,.un,.un,.un,.un,.un,.un,.un,.un,.un]) ?_ ?_
 ·refine Ox (PZ (Of (M_ ?_)));refine Ov (m:=8) rfl (by decide) (by decide) rfl fun t x3 t0 t1 ρ3 e=>?_;subst e;obtain⟨x',eg⟩:=yp x3;refine N8 (OV (Oa ⟨fun _=>?_,fun _=>OH (Ou ⟨_,rfl⟩)⟩) rfl rfl);refine OA (Of (O8 (L_ (O9 eg (Oa (OH (Ou ⟨_,rfl⟩))) rfl rfl (by trivial))) rfl))
 rintro ρ ⟨c1,rfl⟩;obtain⟨top,et,t0,t1⟩:∃top:Int,top=(if (if (9:Int)<((ns.length:Nat):Int) then 9 else ((ns.length:Nat):Int))>1 then (if (9:Int)<((ns.length:Nat):Int) then 9 else ((ns.length:Nat):Int)) else 1)/\1<=top/\top<=12:=⟨_,rfl,by split<;>lia,by split<;>split<;>lia⟩
 refine N9 (OE (QD (i:=0) (j:=top) (k:=3) rfl ?_ rfl ⟨by decide,by unfold BIG;lia,by unfold BIG;lia,by decide,by decide⟩ ?_))
 ·rw[et];exact Qk (Oj (m_ (N8 (m_ (Oj (m_ (Oj (m_ (K_ rfl (L_ (ON (kK:=Dat.int) (xs:=ns) (m_ (N8 (L_ (OY (L_ (OU ⟨rfl,rfl⟩ rfl)) rfl)))) rfl)))))))))))
 unfold gA;refine OI (fun i:Nat=>Dat.int (0+(i:Nat)*3)) _ _ (KY (cF 0 top 3)) _ _ _ _ _ (fun p q ρ=>∃c1 c2 c3 c4 c5 c6 c7 c8 c9 c10 c11 c12:Cell,ρ=[.sh (.lst (ns.map Dat.int)),c1,c2,c3,c4,c5,c6,c7,c8,c9,c10,c11,c12]) ⟨_,_,_,_,_,_,_,_,_,_,_,_,rfl⟩ ?_ ?_
 ·rintro p i q ρ e ⟨c1,c2,c3,c4,c5,c6,c7,c8,c9,c10,c11,c12,rfl⟩;have hi:i<cF 0 top 3:=(fD e).2;unfold cF at hi;rw[if_pos (by lia)]at hi;refine Dm.cJ rfl (by trivial) ?_;exact Bk ns _ (by lia) (by lia) _ _ _ _ _ _ _ _ _ _ _ fun c1 c2 c3 c4 c5 c6 c7 c8 c9 c10 c11 c12=>⟨_,_,_,_,_,_,_,_,_,_,_,_,rfl⟩
 ·rintro ρ ⟨c1,c2,c3,c4,c5,c6,c7,c8,c9,c10,c11,c12,rfl⟩;exact Ol (N8 rfl)
end
end P
namespace Q
open PySem L2 Br Dm P
noncomputable def top(i:Nat):Stmt:=PySem.Challenge.pw_sinceply_k30_small_cuts_told.main.body.getD i (.Pass ⟨0,0,0,0⟩)
noncomputable abbrev tbq(az aF:Addr):List TbZ:=[⟨az,aF,rawInt ((81:Nat):Int),rawInt ((28:Nat):Int),(("small_cuts" : Str) ++ ".<locals>.") ++ "<lambda>"⟩]
set_option genInjectivity false in
set_option genSizeOf false in
structure Txt(mg:Str->Option Value)(K:gb)(base:Heap) where
 {Io Ip Iq Ir Iu Iv Iw Iz IA IB yr Ct Cu Cv Cw Cy Cz CA CB CD tT CF CG CH CI CJ CK CL CM CN CO CP CQ CS yt az aF:Addr}
 {CT CU CV CW CY CZ C0 C1 C2 C3 rM yu yw yx yz yC yD yE yF yG gH yH yI yJ yK yL yM yN yO yP yQ yR yS yT rN:FuncData} {eu:Tok}
 yU:mg "all" = none
 yV:mg "bool" = none
 qw:mg "enumerate" = none
 tU:mg "int" = none
 a_:mg "isinstance" = none
 dG:mg "len" = none
 i7:mg "list" = none
 tW:mg "max" = none
 tX:mg "min" = none
 cL:mg "range" = none
 kW:mg "reversed" = none
 qx:mg "sorted" = none
 IC:mg "sum" = none
 tY:mg "tuple" = none
 ID:mg "zip" = none
 lG:ir mg base ⟨az,aF,rawInt ((81:Nat):Int),rawInt ((28:Nat):Int),(("small_cuts" : Str) ++ ".<locals>.") ++ "<lambda>"⟩
 kX:∃t,mg "MOST_TIES" = some (.int 60 t)
 tZ:mg "small_cuts" = some (.ref tT)
 ve:H3 mg K "is_whole" (top 5) Io CT ["thing"]
 gI:H3 mg K "is_within" (top 6) Ip CU ["thing","low","high"]
 vf:H3 mg K "is_places" (top 7) Iq CV ["thing"]
 oG:H3 mg K "is_place" (top 8) Ir CW ["n","thing"]
 oH:H3 mg K "is_layers" (top 9) Iu CY ["thing"]
 vg:H3 mg K "is_moment" (top 10) Iv CZ ["thing"]
 vh:H3 mg K "is_tie_either_way" (top 11) Iw C0 ["n","thing"]
 vj:H3 mg K "is_tie" (top 12) Iz C1 ["n","thing"]
 vm:H3 mg K "is_rising" (top 13) IA C2 ["things"]
 vn:H3 mg K "look_at_layers" (top 14) IB C3 ["k"]
 iC:H3 mg K "rim" (top 16) yr rM ["record","side"]
 mP:H3 mg K "merged" (top 17) Ct yu ["groups","a","b"]
 mQ:H3 mg K "least_layer" (top 20) Cu yw ["layers","a","b"]
 iD:H3 mg K "layered" (top 19) Cv yx ["n","record","k"]
 mR:H3 mg K "is_record" (top 23) Cw yz ["n","thing"]
 mS:H3 mg K "since" (top 24) Cy yC ["record","t"]
 mT:H3 mg K "is_net" (top 26) Cz yD ["thing"]
 mU:H3 mg K "look_at_net" (top 27) CA yE ["thing"]
 iE:H3 mg K "net_of" (top 28) CB yF ["n","record","k"]
 mV:H3 mg K "thin_sides" (top 31) CD yG ["n","ties","k"]
 jo:gH.code=.ref az
 qy:Ae K "small_cuts" "small_cuts" (top 30) tT gH
 c_:H3 mg K "_law_pool" (top 33) CF yH ["script","k"]
 aB:H3 mg K "_law_take" (top 34) CG yI ["pool","many"]
 mW:H3 mg K "_law_many" (top 35) CH yJ ["pool"]
 mX:H3 mg K "_law_record" (top 36) CI yK ["pool","n","most"]
 iF:H3 mg K "_law_moment" (top 37) CJ yL ["pool","record"]
 iG:H3 mg K "_law_since" (top 38) CK yM ["record","start"]
 mY:H3 mg K "_law_whole" (top 39) CL yN ["thing"]
 iH:H3 mg K "_law_wholes" (top 40) CM yO ["thing"]
 mZ:H3 mg K "_law_rim" (top 41) CN yP ["ties","side"]
 m5:H3 mg K "_law_sides" (top 45) CO yQ ["n"]
 eL:H3 mg K "_law_due" (top 47) CP yR ["n","k","ties"]
 m6:H3 mg K "_law_thick" (top 48) CQ yS ["pool","n","many"]
 C4:Binds K gH ["net","t"] []
 FU:Binds K gH ["net","t"] [.int 0 eu]
 lH:iN K gH ["net","t"] ["t"] (kw1 1) (kw1 1)
 m7:H3 mg K "_law_great" (top 49) CS yT ["pool"]
 yW:H3 mg K "law" (top 50) yt rN ["script"]
section
variable{P':Program}{w:World}{K:gb}{mg:Str->Option Value}{base:Heap}
theorem IE:ao ["thing"] ["thing"] (aa (top 5)):=fsc
theorem IF:ao ["thing","low","high"] ["thing","low","high"] (aa (top 6)):=fsc
theorem IG:ao ["thing"] ["thing"] (aa (top 7)):=fsc
theorem II:ao ["n","thing"] ["n","thing"] (aa (top 8)):=fsc
theorem IK:ao ["thing"] ["thing"] (aa (top 9)):=fsc
theorem IL:ao ["thing"] ["thing"] (aa (top 10)):=fsc
theorem IP:ao ["n","thing"] ["n","thing"] (aa (top 11)):=fsc
theorem IQ:ao ["n","thing"] ["n","thing"] (aa (top 12)):=fsc
theorem IS:ao ["things"] ["things"] (aa (top 13)):=fsc
theorem FW:(["things","at"]:List Str).Nodup:=by decide +kernel
theorem IT:ao ["k"] ["k"] (aa (top 14)):=fsc
theorem FY:ao ["record","side"] ["record","side"] (aa (top 16)):=fsc
theorem oJ:(["record","side","moment","a","b"]:List Str).Nodup:=by decide +kernel
theorem FZ:ao ["groups","a","b"] ["groups","a","b"] (aa (top 17)):=fsc
theorem Bl:(["groups","a","b","group"]:List Str).Nodup:=by decide +kernel
theorem rO:ao ["layers","a","b","at","groups"] ["layers","a","b"] (aa (top 20)):=fsc
theorem gJ:ao ["n","record","k","layers","numbers","moment","a","b","number"] ["n","record","k"] (aa (top 19)):=fsc
theorem Bm:(["n","record","k","layers","numbers","moment","a","b","number","layer"]:List Str).Nodup:=by decide +kernel
theorem F0:ao ["n","thing"] ["n","thing"] (aa (top 23)):=fsc
theorem Bo:(["n","thing","tie"]:List Str).Nodup:=by decide +kernel
theorem Bp:(["n","thing","tie"]:List Str).Nodup:=by decide +kernel
theorem F1:ao ["record","t"] ["record","t"] (aa (top 24)):=fsc
theorem Bq:(["record","t","tie"]:List Str).Nodup:=by decide +kernel
theorem F2:ao ["thing"] ["thing"] (aa (top 26)):=fsc
theorem F3:ao ["thing"] ["thing"] (aa (top 27)):=fsc
theorem yX:ao ["n","record","k","numbers"] ["n","record","k"] (aa (top 28)):=fsc
theorem t7:(["n","record","k","numbers","tie","number"]:List Str).Nodup:=by decide +kernel
theorem i8:ao ["n","ties","k","sides","place","among","both"] ["n","ties","k"] (aa (top 31)):=fsc
theorem Bs:(["n","ties","k","sides","place","among","both","tie"]:List Str).Nodup:=by decide +kernel
theorem Bt:(["n","ties","k","sides","place","among","both","side"]:List Str).Nodup:=by decide +kernel
theorem Bu:(["n","ties","k","sides","place","among","both","side"]:List Str).Nodup:=by decide +kernel
theorem Bv:(["n","ties","k","sides","place","among","both","side"]:List Str).Nodup:=by decide +kernel
theorem rP:ao ["net","t","ties","cuts"] ["net","t"] (aa (top 30)):=fsc
theorem Bw:(["net","t","ties","cuts","side"]:List Str).Nodup:=by decide +kernel
theorem ez:ao ["script","k","cell","number","found","turn"] ["script","k"] (aa (top 33)):=fsc
theorem yY:ao ["pool","many","digit"] ["pool","many"] (aa (top 34)):=fsc
theorem F4:ao ["pool"] ["pool"] (aa (top 35)):=fsc
theorem cu:ao ["pool","n","most","many","kind","step","times","way","moment","found","k","one","other"] ["pool","n","most"] (aa (top 36)):=fsc
theorem yZ:ao ["pool","record","at"] ["pool","record"] (aa (top 37)):=fsc
theorem F5:ao ["record","start"] ["record","start"] (aa (top 38)):=fsc
theorem Bx:(["record","start","tie"]:List Str).Nodup:=by decide +kernel
theorem F6:ao ["thing"] ["thing"] (aa (top 39)):=fsc
theorem F7:ao ["thing"] ["thing"] (aa (top 40)):=fsc
theorem By:(["thing","part"]:List Str).Nodup:=by decide +kernel
theorem F8:ao ["ties","side"] ["ties","side"] (aa (top 41)):=fsc
theorem BA:(["ties","side","tie"]:List Str).Nodup:=by decide +kernel
theorem oK:ao ["n","found","place"] ["n"] (aa (top 45)):=fsc
theorem BB:(["n","found","place","side"]:List Str).Nodup:=by decide +kernel
theorem oM:ao ["n","k","ties","found","side","moments"] ["n","k","ties"] (aa (top 47)):=fsc
theorem oN:(["n","k","ties","found","%4","%5","many","side","moments"]:List Str).Nodup:=by decide +kernel
theorem gK:ao ["pool","n","many","found","moment","k","one","other"] ["pool","n","many"] (aa (top 48)):=fsc
theorem rQ:ao ["pool","net","start"] ["pool"] (aa (top 49)):=fsc
theorem cy:ao ["script","pool","at","n","k","net","ties","start","due","found","number","side","moments"] ["script"] (aa (top 50)):=fsc
variable(T:Txt mg K base)
include T
theorem IU :
  aO P' w K mg base CX0 1 T.Io T.CT ["thing"] (spD AU):=
 okQ T.ve.F IE fun _ _ _ _ _ _ hr=>(aA (s_r (lY (gZ sM (by rfl) rfl T.tU rfl T.a_ (d_v 0)) (pG (BY (gZ pH (by rfl) rfl T.yV rfl T.a_ (d_v 0)))))))
theorem t8 :
  aO P' w K mg base CX0 2 T.Ip T.CU ["thing","low","high"] (spD rF):=
 okQ T.gI.F IF fun _ _ _ _ _ _ hr=>(aA (s_r (lY (aD (IU T) (Br.hm hr) rfl T.ve.m T.ve.F.kp T.ve.b (a_1 (d_v 0))) (pG (zV r8 sG r8 sG (d_v 1) (d_v 0) (d_v 2))))))
theorem IV :
  aO P' w K mg base CX0 3 T.Iq T.CV ["thing"] (spD AV):=
 okQ T.vf.F IG fun _ _ _ _ _ _ hr=>(aA (s_r (aD (t8 T) (Br.hm hr) rfl T.gI.m T.gI.F.kp T.gI.b (aC (d_v 0) (a_2 d_i d_i)))))
theorem C5 :
  aO P' w K mg base CX0 3 T.Ir T.CW ["n","thing"] (spD xT):=
 okQ T.oG.F II fun _ _ _ _ _ _ hr=>(aA (s_r (aD (t8 T) (Br.hm hr) rfl T.gI.m T.gI.F.kp T.gI.b (aC (d_v 1) (a_2 d_i (lV (d_v 0) d_i))))))
theorem C6 :
  aO P' w K mg base CX0 3 T.Iu T.CY ["thing"] (spD rG):=
 okQ T.oH.F IK fun _ _ _ _ _ _ hr=>(aA (s_r (aD (t8 T) (Br.hm hr) rfl T.gI.m T.gI.F.kp T.gI.b (aC (d_v 0) (a_2 d_i d_i)))))
theorem IW :
  aO P' w K mg base CX0 3 T.Iv T.CZ ["thing"] (spD AW):=
 okQ T.vg.F IL fun _ _ _ _ _ _ hr=>(aA (s_r (aD (t8 T) (Br.hm hr) rfl T.gI.m T.gI.F.kp T.gI.b (aC (d_v 0) (a_2 d_i (gY d_i d_i))))))
theorem IX :
  aO P' w K mg base CX0 4 T.Iw T.C0 ["n","thing"] (spD AX):=
 okQ T.vh.F IP fun _ _ _ _ _ _ hr=>(aj (eS (t_w (w_or (dm (dw (gZ kit_tuple (by rfl) rfl T.tY rfl T.a_ (d_v 1)))) (jV (ly hr (dj rfl T.dG (a_1 (d_v 1))) d_i)))) (aA (s_r d_b)) cC)
  (aA (s_r (lY (aD (IW T) (Br.hm hr) rfl T.vg.m T.vg.F.kp T.vg.b (a_1 (bf (d_v 1) d_i))) (lY (aD (C5 T) (Br.hm hr) rfl T.oG.m T.oG.F.kp T.oG.b (a_2 (d_v 0) (bf (d_v 1) d_i))) (pG (aD (C5 T) (Br.hm hr) rfl T.oG.m T.oG.F.kp T.oG.b (a_2 (d_v 0) (bf (d_v 1) d_i)))))))))
theorem IY :
  aO P' w K mg base CX0 5 T.Iz T.C1 ["n","thing"] (spD AY):=
 okQ T.vj.F IQ fun _ _ _ _ _ _ hr=>(aA (s_r (lY (aD (IX T) (Br.hm hr) rfl T.vh.m T.vh.F.kp T.vh.b (a_2 (d_v 0) (d_v 1))) (pG (JE (bf (d_v 1) d_i) (bf (d_v 1) d_i))))))
theorem IZ :
  aO P' w K mg base CX0 1 T.IA T.C2 ["things"] (spD AZ):=
 okQ T.vm.F IS fun _ _ _ _ _ _ hr=>(aA (s_r (wC rfl rfl T.yU (a_1 (Ew ["things"] ["at"] (c_n 1 FW rfl rfl) (Eo rfl T.cL (a_2 d_i (dj rfl T.dG (a_1 (d_v 0))))) (fun _ _ _ _ _=>dY) (fun _ _ _ _ _=>(JD (bf (d_v 0) (lV (d_v 1) d_i)) (bf (d_v 0) (d_v 1)))))))))
theorem I0 :
  aO P' w K mg base CX0 4 T.IB T.C3 ["k"] (spD A0):=
 okQ T.vn.F IT fun _ _ _ _ _ _ hr=>(aA (eS (dm (dw (aD (C6 T) (Br.hm hr) rfl T.oH.m T.oH.F.kp T.oH.b (a_1 (d_v 0))))) (aA sJ) cC))
theorem t9 :
  aO P' w K mg base CX0 1 T.yr T.rM ["record","side"] (spP kE):=by
 refine T.iC.F.ok FY (fun vs H Q E h=>s_ h) (fun cdv A outer s H vs Q E hr h=>?_);exact⟨_,(q_r (p_o (eK 0 ["record","side"] ["moment","a","b"] (c_t rfl (fun _ _ _ _ _=>(bP 2 oJ (bP 3 oJ (bP 4 oJ jW))))) (d_v 0) (fun _ _ _ _ _=>e_ (ly hr (zR hr (d_v 3) (d_v 1)) (zR hr (d_v 4) (d_v 1)))) (fun _ _ _ _ _=>(d_v 2))))),Ce (n:=2) (m:=0) rfl h⟩
theorem F9 :
  aO P' w K mg base CX0 1 T.yr T.rM ["record","side"] (spD xU):=by
 exact AD (t9 T)
theorem F_ :
  aO P' w K mg base CX0 1 T.Ct T.yu ["groups","a","b"] (spD tF):=
 okQ T.mP.F FZ fun _ _ _ _ _ _ hr=>(aA (s_r (eK 0 ["groups","a","b"] ["group"] (c_n 3 Bl rfl rfl) (d_v 0) (fun _ _ _ _ _=>dY) (fun _ _ _ _ _=>(JH (wo hr (d_v 3) (bf (d_v 0) (d_v 2))) (bf (d_v 0) (d_v 1)) (d_v 3))))))
theorem Ga :
  aO P' w K mg base CX0 1 T.Cu T.yw ["layers","a","b"] (spD p9):=
 okQ T.mQ.F rO fun _ _ _ _ _ _ hr=>(aj (f9 LC rfl (JL rfl T.qw (d_v 0)) (g_t rfl (bP 3 rO.nd (bP 4 rO.nd jW)))
  (aA (eS (ly hr (bf (d_v 4) (d_v 1)) (bf (d_v 4) (d_v 2))) (aA (s_r (bu (d_v 3) d_i))) cC)))
  (aA (s_r d_i)))
theorem y9 :
  aO P' w K mg base CX0 5 T.Cv T.yx ["n","record","k"] (spD mF):=
 okQ T.iD.F gJ fun _ _ _ _ _ _ hr=>(aj (s_e (aD (I0 T) (Br.hm hr) rfl T.vn.m T.vn.F.kp T.vn.b (a_1 (d_v 2))))
  (aj (JJ 3 ["n","record","k","layers","numbers","moment","a","b","number"] ["layer"] gJ.nd (c_n 9 Bm rfl rfl) (zT rfl T.cL (a_1 (d_v 2))) (fun _ _ _ _ _=>dY) (fun _ _ _ _ _=>(EC rfl rfl T.i7 rfl T.cL (a_1 (d_v 0)))))
  (aj (s_a 4 gJ.nd (cR eH))
  (aj (f9 LC rfl (HA rfl T.kW (d_v 1)) (g_t rfl (bP 5 gJ.nd (bP 6 gJ.nd (bP 7 gJ.nd jW))))
  (aj (s_a 8 gJ.nd (aD (Ga T) (Br.hm hr) rfl T.mQ.m T.mQ.F.kp T.mQ.b (aC (d_v 3) (a_2 (d_v 6) (d_v 7)))))
  (aj (eS (zS (d_v 8) d_i) (aA (BZ 3 (lV (d_v 8) d_i) (aD (F_ T) (Br.hm hr) rfl T.mP.m T.mP.F.kp T.mP.b (aC (bf (d_v 3) (lV (d_v 8) d_i)) (a_2 (d_v 6) (d_v 7)))))) cC)
  (aA (sL 4 (d_v 8))))))
  (aA (s_r (z0 rfl rfl T.i7 rfl T.kW (d_v 4))))))))
theorem Gb :
  aO P' w K mg base CX0 6 T.Cw T.yz ["n","thing"] (spD tG):=by
 refine T.mR.F.ok F0 (fun vs H Q E h=>nH h) (fun cdv A outer s H vs Q E hr h=>?_);obtain⟨BC,qz⟩:=T.kX;exact ⟨_,(aj (eS (t_w (w_or (dm (dw (aD (IV T) (Br.hm hr) rfl T.vf.m T.vf.F.kp T.vf.b (a_1 (d_v 0))))) (w_or (dm (dw (gZ jX (by rfl) rfl T.i7 rfl T.a_ (d_v 1)))) (jV (zS (dj rfl T.dG (a_1 (d_v 1))) (d_g rfl qz)))))) (aA (s_r d_b)) cC)
  (aj (eS (dm (dw (wC rfl rfl T.yU (a_1 (eK 1 ["n","thing"] ["tie"] (c_n 2 Bo rfl rfl) (d_v 1) (fun _ _ _ _ _=>dY) (fun _ _ _ _ _=>(aD (IY T) (Br.hm hr) rfl T.vj.m T.vj.F.kp T.vj.b (a_2 (d_v 0) (d_v 2))))))))) (aA (s_r d_b)) cC)
  (aA (s_r (aD (IZ T) (Br.hm hr) rfl T.vm.m T.vm.F.kp T.vm.b (a_1 (eK 1 ["n","thing"] ["tie"] (c_n 2 Bp rfl rfl) (d_v 1) (fun _ _ _ _ _=>dY) (fun _ _ _ _ _=>(bf (d_v 2) d_i))))))))),D8 (n:=2) (m:=0) rfl h⟩
theorem Gd :
  aO P' w K mg base CX0 1 T.Cy T.yC ["record","t"] (spD kF):=
 okQ T.mS.F F1 fun _ _ _ _ _ _ hr=>(aA (s_r (eK 0 ["record","t"] ["tie"] (c_n 2 Bq rfl rfl) (d_v 0) (fun _ _ _ _ _=>e_ (Ek (bf (d_v 2) d_i) (d_v 1))) (fun _ _ _ _ _=>(d_v 2)))))
theorem Ge :
  aO P' w K mg base CX0 7 T.Cz T.yD ["thing"] (spD tH):=
 okQ T.mT.F F2 fun _ _ _ _ _ _ hr=>(aj (eS (t_w (w_or (dm (dw (gZ kit_tuple (by rfl) rfl T.tY rfl T.a_ (d_v 0)))) (jV (ly hr (dj rfl T.dG (a_1 (d_v 0))) d_i)))) (aA (s_r d_b)) cC)
  (aj (eS (t_w (w_or (dm (dw (aD (C6 T) (Br.hm hr) rfl T.oH.m T.oH.F.kp T.oH.b (a_1 (bf (d_v 0) d_i))))) (jV (dm (dw (aD (Gb T) (Br.hm hr) rfl T.mR.m T.mR.F.kp T.mR.b (a_2 (bf (d_v 0) d_i) (bf (d_v 0) d_i)))))))) (aA (s_r d_b)) cC)
  (aA (s_r (Hq hr d_i (aD (y9 T) (Br.hm hr) rfl T.iD.m T.iD.F.kp T.iD.b (aC (bf (d_v 0) d_i) (a_2 (bf (d_v 0) d_i) (bf (d_v 0) d_i)))))))))
theorem Gf :
  aO P' w K mg base CX0 8 T.CA T.yE ["thing"] (spD p_):=
 okQ T.mU.F F3 fun _ _ _ _ _ _ hr=>(aA (eS (dm (dw (aD (Ge T) (Br.hm hr) rfl T.mT.m T.mT.F.kp T.mT.b (a_1 (d_v 0))))) (aA sJ) cC))
theorem y_ :
  aO P' w K mg base CX0 6 T.CB T.yF ["n","record","k"] (spD qc):=
 okQ T.iE.F yX fun _ _ _ _ _ _ hr=>(aj (s_a 3 yX.nd (aD (y9 T) (Br.hm hr) rfl T.iD.m T.iD.F.kp T.iD.b (aC (d_v 0) (a_2 (d_v 1) (d_v 2)))))
  (aA (s_r (e9 (aC (d_v 0) (a_2 (d_v 2) (Ew ["n","record","k","numbers"] ["tie","number"] (c_t rfl (fun _ _ _ _ _=>(bP 4 t7 (bP 5 t7 jW)))) (HC rfl T.ID (a_2 (d_v 1) (d_v 3))) (fun _ _ _ _ _=>e_ (zS (d_v 5) d_i)) (fun _ _ _ _ _=>(d_v 4)))))))))
theorem Gg :
  aO P' w K mg base CX0 2 T.CD T.yG ["n","ties","k"] (spD mG):=
 okQ T.mV.F i8 fun _ _ _ _ _ _ hr=>(aj (s_a 3 i8.nd (cR (a_1 (e9 eH))))
  (aj (f9 LC rfl (Eo rfl T.cL (a_2 d_i (d_v 0))) (g_n 4 i8.nd)
  (aj (s_a 5 i8.nd (eK 1 ["n","ties","k","sides","place","among","both"] ["tie"] (c_n 7 Bs rfl rfl) (d_v 1) (fun _ _ _ _ _=>e_ (JG (bf (d_v 7) d_i) (d_v 4))) (fun _ _ _ _ _=>(d_v 7))))
  (aj (s_a 6 i8.nd (bu (d_v 3) (eK 3 ["n","ties","k","sides","place","among","both"] ["side"] (c_n 7 Bt rfl rfl) (d_v 3) (fun _ _ _ _ _=>dY) (fun _ _ _ _ _=>(xr (d_v 7) (e9 (a_1 (d_v 4))))))))
  (aA (HB 3 6 ["n","ties","k","sides","place","among","both"] ["side"] i8.nd (c_n 7 Bu rfl rfl) (d_v 6) (fun _ _ _ _ _=>e_ (Ej (dj rfl T.dG (a_1 (aD (F9 T) (Br.hm hr) rfl T.iC.m T.iC.F.kp T.iC.b (a_2 (d_v 5) (d_v 7))))) (d_v 2))) (fun _ _ _ _ _=>(d_v 7)))))))
  (aA (s_r (eK 3 ["n","ties","k","sides","place","among","both"] ["side"] (c_n 7 Bv rfl rfl) (d_v 3) (fun _ _ _ _ _=>e_ (zS (dj rfl T.dG (a_1 (d_v 7))) d_i)) (fun _ _ _ _ _=>(d_v 7)))))))
theorem fF :
  aO P' w K mg base CX0 9 T.tT T.gH ["net","t"] (AB (tbq T.az T.aF) cK):=by
 refine T.qy.okG rP (fun vs H Q E h=>s_ h) (fun cdv A outer s H vs Q E hc hr ht h=>?_);exact ⟨_,(xo (s_e (aD (Gf T) (Br.hm hr) rfl T.mU.m T.mU.F.kp T.mU.b (a_1 (d_v 0))))
  (xo (s_a 2 rP.nd (aD (Gd T) (Br.hm hr) rfl T.mS.m T.mS.F.kp T.mS.b (a_2 (bf (d_v 0) d_i) (d_v 1))))
  (AI 3 ["net","t","ties","cuts"] ["side"] rP.nd (c_n 4 Bw rfl rfl) (i_S (aD (Gg T) (Br.hm hr) rfl T.mV.m T.mV.F.kp T.mV.b (aC (bf (d_v 0) d_i) (a_2 (d_v 2) (bf (d_v 0) d_i))))) (fun _ _ _ _ _=>(HQ (HP (p_o (d_v 4)) (HP (Fc (t9 T) (Br.hm hr) rfl T.iC.m T.iC.F.kp T.iC.b (a_2 (d_v 2) (d_v 4))) JU))))
  (AK (k:=1) 100000 (by decide) (fun hL hk _=>.long hL hk) (Br.hm hr) rfl T.qx (T.lG.tab (hc.trans T.jo)) (ht _ (.head _)) fsc (fun _ _ _ _=>rfl) (fun _ _ _ _ _ _ _=>(e9 (a_2 (dj rfl T.dG (a_1 (bf (d_v 0) d_i))) (bf (d_v 0) d_i)))))))),Ce (n:=2) (m:=2) rfl h⟩
theorem rR :
  aO P' w K mg base CX0 9 T.tT T.gH ["net","t"] (spT (tbq T.az T.aF) mH):=by
 exact xD (fF T)
theorem oO :
  aO P' w K mg base CX0 1 T.CF T.yH ["script","k"] (spD jf):=
 okQ T.c_.F ez fun _ _ _ _ _ _ hr=>(aj (s_a 2 ez.nd d_i)
  (aj (eS (Ej (d_v 1) (dj rfl T.dG (a_1 (d_v 0)))) (aA (s_a 2 ez.nd (bf (d_v 0) (d_v 1)))) cC)
  (aj (eS (Ek (d_v 2) (gY d_i d_i)) (aA (s_r (cR (a_1 (e8 (d_v 2) (nV (nV (nV (nV (gY d_i d_i) (gY d_i d_i)) (gY d_i d_i)) (gY d_i d_i)) (gY d_i d_i))))))) cC)
  (aj (s_a 3 ez.nd (e8 (bu (bu (bu (d_v 2) (f7 (f7 d_i (d_v 1)) (d_v 1))) (f7 d_i (d_v 1))) d_i) d_i))
  (aj (s_a 4 ez.nd d_i)
  (aj (f9 LC rfl (zT rfl T.cL (a_1 d_i)) (g_n 5 ez.nd)
  (aj (s_a 3 ez.nd (e8 (bu (bu (f7 (d_v 3) d_i) (f7 d_i (d_v 5))) d_i) d_i))
  (aj (s_a 3 ez.nd (e8 (f7 (d_v 3) (d_v 3)) d_i))
  (aA (s_a 4 ez.nd (bu (f7 (d_v 4) d_i) (e8 (bu (f7 (d_v 3) d_i) (d_v 1)) d_i)))))))
  (aA (s_r (cR (a_1 (d_v 4)))))))))))
theorem bB :
  aO P' w K mg base CX0 1 T.CG T.yI ["pool","many"] (spM bC):=by
 refine T.aB.F.ok yY (fun vs H Q E h=>dZ h) (fun cdv A outer s H vs Q E hr h=>?_);exact ⟨_,(aj (s_a 2 yY.nd (e8 (bf (d_v 0) d_i) (d_v 1)))
  (aj (BZ 0 d_i (Hj (bf (d_v 0) d_i) (d_v 1)))
  (aA (s_r (d_v 2))))),l8 (n:=2) (m:=1) rfl h⟩
theorem Gh :
  aO P' w K mg base CX0 2 T.CH T.yJ ["pool"] (spM qd):=by
 refine T.mW.F.ok F4 (fun vs H Q E h=>dZ h) (fun cdv A outer s H vs Q E hr h=>?_);exact⟨_,(aA (s_r (bf (cR (@aC _ _ _ _ _ d_i (@aC _ _ _ _ _ d_i (@aC _ _ _ _ _ d_i (@aC _ _ _ _ _ d_i (@aC _ _ _ _ _ d_i (@aC _ _ _ _ _ d_i (@aC _ _ _ _ _ d_i (@aC _ _ _ _ _ d_i eH rfl) rfl) rfl) rfl) rfl) rfl) rfl) rfl)) (aT (bB T) (Br.hm hr) rfl T.aB.m T.aB.F.kp T.aB.b (a_2 (d_v 0) d_i))))),l8 (n:=1) (m:=0) rfl h⟩
theorem Gi :
  aO P' w K mg base CX0 2 T.CI T.yK ["pool","n","most"] (spM qe):=by
 refine T.mX.F.ok cu (fun vs H Q E h=>dZ h) (fun cdv A outer s H vs Q E hr h=>?_);exact ⟨_,(aj (s_a 3 cu.nd (aT (bB T) (Br.hm hr) rfl T.aB.m T.aB.F.kp T.aB.b (a_2 (d_v 0) (bu (d_v 2) d_i))))
  (aj (s_a 4 cu.nd (aT (bB T) (Br.hm hr) rfl T.aB.m T.aB.F.kp T.aB.b (a_2 (d_v 0) d_i)))
  (aj (s_a 5 cu.nd (bf (cR (aC d_i (aC d_i (a_2 (gY d_i d_i) d_i)))) (d_v 4)))
  (aj (s_a 6 cu.nd (bf (cR (a_2 d_i (gY d_i d_i))) (B0 rfl T.tU (a_1 (Ho hr (d_v 4) d_i)))))
  (aj (s_a 7 cu.nd (aT (bB T) (Br.hm hr) rfl T.aB.m T.aB.F.kp T.aB.b (a_2 (d_v 0) d_i)))
  (aj (s_a 8 cu.nd (f7 (aT (bB T) (Br.hm hr) rfl T.aB.m T.aB.F.kp T.aB.b (a_2 (d_v 0) (d_v 5))) (d_v 6)))
  (aj (s_a 9 cu.nd (cR eH))
  (aj (f9 LC rfl (zT rfl T.cL (a_1 (d_v 3))) (g_n 10 cu.nd)
  (aj (s_a 11 cu.nd (aT (bB T) (Br.hm hr) rfl T.aB.m T.aB.F.kp T.aB.b (a_2 (d_v 0) (d_v 1))))
  (aj (s_a 12 cu.nd (aT (bB T) (Br.hm hr) rfl T.aB.m T.aB.F.kp T.aB.b (a_2 (d_v 0) (d_v 1))))
  (aj (eS (wo hr (d_v 7) d_i) (aA (s_a 12 cu.nd (e8 (bu (d_v 11) d_i) (d_v 1)))) cC)
  (aj (eS (wo hr (d_v 7) d_i) (aA (s_a 12 cu.nd (e8 (e8 (bu (bu (d_v 11) (e8 (d_v 12) d_i)) d_i) (nJ rfl rfl T.tX (a_2 (d_v 1) d_i))) (d_v 1)))) cC)
  (aj (sL 9 (e9 (aC (d_v 8) (a_2 (nJ rfl rfl T.tX (a_2 (d_v 11) (d_v 12))) (nK rfl rfl T.tW (a_2 (d_v 11) (d_v 12)))))))
  (aA (s_a 8 cu.nd (bu (bu (d_v 8) d_i) (f7 (aT (bB T) (Br.hm hr) rfl T.aB.m T.aB.F.kp T.aB.b (a_2 (d_v 0) (d_v 5))) (d_v 6)))))))))))
  (aA (s_r (d_v 9))))))))))),l8 (n:=3) (m:=10) rfl h⟩
theorem za :
  aO P' w K mg base CX0 2 T.CJ T.yL ["pool","record"] (spM mJ):=by
 refine T.iF.F.ok yZ (fun vs H Q E h=>dZ h) (fun cdv A outer s H vs Q E hr h=>?_);exact ⟨_,(aj (eS (wo hr (d_v 1) (cR eH)) (aA (s_r (aT (bB T) (Br.hm hr) rfl T.aB.m T.aB.F.kp T.aB.b (a_2 (d_v 0) d_i)))) cC)
  (aj (s_a 2 yZ.nd (bf (bf (d_v 1) (aT (bB T) (Br.hm hr) rfl T.aB.m T.aB.F.kp T.aB.b (a_2 (d_v 0) (dj rfl T.dG (a_1 (d_v 1)))))) d_i))
  (aA (s_r (bf (cR (@aC _ _ _ _ _ d_i (@aC _ _ _ _ _ (d_v 2) (@aC _ _ _ _ _ (bu (d_v 2) d_i) (@aC _ _ _ _ _ (nK rfl rfl T.tW (a_2 d_i (lV (d_v 2) d_i))) (@aC _ _ _ _ _ (bu (bf (bf (d_v 1) (Hl d_i)) d_i) d_i) (@aC _ _ _ _ _ (d_v 2) eH rfl) rfl) rfl) rfl) rfl) rfl)) (aT (bB T) (Br.hm hr) rfl T.aB.m T.aB.F.kp T.aB.b (a_2 (d_v 0) d_i))))))),l8 (n:=2) (m:=1) rfl h⟩
theorem zb :
  aO P' w K mg base CX0 1 T.CK T.yM ["record","start"] (spD kG):=
 okQ T.iG.F F5 fun _ _ _ _ _ _ hr=>(aA (s_r (eK 0 ["record","start"] ["tie"] (c_n 2 Bx rfl rfl) (d_v 0) (fun _ _ _ _ _=>e_ (Ek (bf (d_v 2) d_i) (d_v 1))) (fun _ _ _ _ _=>(d_v 2)))))
theorem Gj :
  aO P' w K mg base CX0 1 T.CL T.yN ["thing"] (spD x6):=
 okQ T.mY.F F6 fun _ _ _ _ _ _ hr=>(aA (s_r (lY (gZ sM (by rfl) rfl T.tU rfl T.a_ (d_v 0)) (pG (BY (gZ pH (by rfl) rfl T.yV rfl T.a_ (d_v 0)))))))
theorem zc :
  aO P' w K mg base CX0 2 T.CM T.yO ["thing"] (spD kH):=
 okQ T.iH.F F7 fun _ _ _ _ _ _ hr=>(aA (s_r (wC rfl rfl T.yU (a_1 (eK 0 ["thing"] ["part"] (c_n 1 By rfl rfl) (d_v 0) (fun _ _ _ _ _=>dY) (fun _ _ _ _ _=>(aD (Gj T) (Br.hm hr) rfl T.mY.m T.mY.F.kp T.mY.b (a_1 (d_v 1)))))))))
theorem Gk :
  aO P' w K mg base CX0 1 T.CN T.yP ["ties","side"] (spD tK):=
 okQ T.mZ.F F8 fun _ _ _ _ _ _ hr=>(aA (s_r (eK 0 ["ties","side"] ["tie"] (c_n 2 BA rfl rfl) (d_v 0) (fun _ _ _ _ _=>e_ (ly hr (zR hr (bf (d_v 2) d_i) (d_v 1)) (zR hr (bf (d_v 2) d_i) (d_v 1)))) (fun _ _ _ _ _=>(bf (d_v 2) d_i)))))
theorem Gm :
  aO P' w K mg base CX0 1 T.CO T.yQ ["n"] (spD tL):=
 okQ T.m5.F oK fun _ _ _ _ _ _ hr=>(aj (s_a 1 oK.nd (cR (a_1 (e9 eH))))
  (aj (f9 LC rfl (Eo rfl T.cL (a_2 d_i (d_v 0))) (g_n 2 oK.nd)
  (aA (s_a 1 oK.nd (bu (d_v 1) (eK 1 ["n","found","place"] ["side"] (c_n 3 BB rfl rfl) (d_v 1) (fun _ _ _ _ _=>dY) (fun _ _ _ _ _=>(xr (d_v 3) (e9 (a_1 (d_v 2))))))))))
  (aA (s_r (Ep (d_v 1) (o_s d_i) o_n)))))
theorem rS :
  aO P' w K mg base CX0 2 T.CP T.yR ["n","k","ties"] (spD kI):=
 okQ T.eL.F oM fun _ _ _ _ _ _ hr=>(aj (s_a 3 oM.nd (cR eH))
  (aj (f9 LC rfl (i_S (aD (Gm T) (Br.hm hr) rfl T.m5.m T.m5.F.kp T.m5.b (a_1 (d_v 0)))) (g_n 4 oM.nd)
  (aj (s_a 5 oM.nd (aD (Gk T) (Br.hm hr) rfl T.mZ.m T.mZ.F.kp T.mZ.b (a_2 (d_v 2) (d_v 4))))
  (aA (eS (Ej (dj rfl T.dG (a_1 (d_v 5))) (d_v 1)) (aA (sL 3 (e9 (aC (dj rfl T.dG (a_1 (d_v 5))) (a_2 (d_v 4) (d_v 5)))))) cC))))
  (aA (s_r (Ew ["n","k","ties","found","%4","%5"] ["many","side","moments"] (c_t rfl (fun _ _ _ _ _=>(bP 6 oN (bP 7 oN (bP 8 oN jW))))) (i_S (Av hr rfl T.qx (a_1 (d_v 3)))) (fun _ _ _ _ _=>dY) (fun _ _ _ _ _=>(e9 (a_2 (d_v 7) (d_v 8)))))))))
theorem Gn :
  aO P' w K mg base CX0 2 T.CQ T.yS ["pool","n","many"] (spM qf):=by
 refine T.m6.F.ok gK (fun vs H Q E h=>dZ h) (fun cdv A outer s H vs Q E hr h=>?_);exact ⟨_,(aj (s_a 3 gK.nd (cR eH))
  (aj (s_a 4 gK.nd (aT (bB T) (Br.hm hr) rfl T.aB.m T.aB.F.kp T.aB.b (a_2 (d_v 0) d_i)))
  (aj (f9 LC rfl (zT rfl T.cL (a_1 (d_v 2))) (g_n 5 gK.nd)
  (aj (s_a 6 gK.nd (aT (bB T) (Br.hm hr) rfl T.aB.m T.aB.F.kp T.aB.b (a_2 (d_v 0) (d_v 1))))
  (aj (s_a 7 gK.nd (e8 (bu (bu (d_v 6) d_i) (aT (bB T) (Br.hm hr) rfl T.aB.m T.aB.F.kp T.aB.b (a_2 (d_v 0) (lV (d_v 1) d_i)))) (d_v 1)))
  (aj (sL 3 (e9 (aC (d_v 4) (a_2 (nJ rfl rfl T.tX (a_2 (d_v 6) (d_v 7))) (nK rfl rfl T.tW (a_2 (d_v 6) (d_v 7)))))))
  (aA (s_a 4 gK.nd (bu (bu (d_v 4) d_i) (aT (bB T) (Br.hm hr) rfl T.aB.m T.aB.F.kp T.aB.b (a_2 (d_v 0) d_i)))))))))
  (aA (s_r (d_v 3)))))),l8 (n:=3) (m:=5) rfl h⟩
theorem Gp :
  aO P' w K mg base CX0 10 T.CS T.yT ["pool"] (H_ (tbq T.az T.aF) qg):=by
 refine AE T.m7.F rQ (fun vs H Q E h=>dZ h) (fun cdv A outer s H vs Q E hc hr ht h=>?_);exact ⟨_,(aj (s_a 1 rQ.nd (aD (y_ T) (Br.hm hr) rfl T.iE.m T.iE.F.kp T.iE.b (aC d_i (a_2 (aT (Gn T) (Br.hm hr) rfl T.m6.m T.m6.F.kp T.m6.b (aC (d_v 0) (a_2 d_i (bu d_i (aT (bB T) (Br.hm hr) rfl T.aB.m T.aB.F.kp T.aB.b (a_2 (d_v 0) d_i)))))) d_i))))
  (aj (s_a 2 rQ.nd (bf (bf (bf (d_v 1) d_i) (aT (bB T) (Br.hm hr) rfl T.aB.m T.aB.F.kp T.aB.b (a_2 (d_v 0) (dj rfl T.dG (a_1 (bf (d_v 1) d_i)))))) d_i))
  (aA (s_r (Ho hr (Ay ht (rR T) (Br.hm hr) rfl T.tZ T.qy.kp T.C4 (a_2 (d_v 1) (d_v 2))) (aD (rS T) (Br.hm hr) rfl T.eL.m T.eL.F.kp T.eL.b (aC d_i (a_2 d_i (aD (zb T) (Br.hm hr) rfl T.iG.m T.iG.F.kp T.iG.b (a_2 (bf (d_v 1) d_i) (d_v 2))))))))))),l8 (n:=1) (m:=2) rfl h⟩
theorem Gq :
  aO P' w K mg base CX0 11 T.yt T.rN ["script"] (spT (tbq T.az T.aF) mK):=by
 refine Az T.yW.F cy (fun vs H Q E h=>nH h) (fun cdv A outer s H vs Q E hc hr ht h=>?_);exact ⟨_,(aj (s_a 1 cy.nd (aD (oO T) (Br.hm hr) rfl T.c_.m T.c_.F.kp T.c_.b (a_2 (cR (a_1 (E1 rfl rfl T.IC (a_1 (d_v 0))))) d_i)))
  (aj (eS (t_w (w_and (wo hr (aT (bB T) (Br.hm hr) rfl T.aB.m T.aB.F.kp T.aB.b (a_2 (d_v 1) d_i)) d_i) (Em (dm (dw (xE ht (Gp T) (Br.hm hr) rfl T.m7.m T.m7.F.kp T.m7.b (a_1 (d_v 1)))))))) (aA (s_r d_b)) cC)
  (aj (f9 LC rfl (JR rfl T.cL (aC d_i (a_2 (nK rfl rfl T.tW (a_2 d_i (nJ rfl rfl T.tX (a_2 (dj rfl T.dG (a_1 (d_v 0))) d_i)))) d_i))) (g_n 2 cy.nd)
  (aj (s_a 1 cy.nd (aD (oO T) (Br.hm hr) rfl T.c_.m T.c_.F.kp T.c_.b (a_2 (d_v 0) (d_v 2))))
  (aj (s_a 3 cy.nd (aT (Gh T) (Br.hm hr) rfl T.mW.m T.mW.F.kp T.mW.b (a_1 (d_v 1))))
  (aj (s_a 4 cy.nd (bu d_i (aT (bB T) (Br.hm hr) rfl T.aB.m T.aB.F.kp T.aB.b (a_2 (d_v 1) d_i))))
  (aj (s_a 5 cy.nd (aD (y_ T) (Br.hm hr) rfl T.iE.m T.iE.F.kp T.iE.b (aC (d_v 3) (a_2 (Al (Gi T) (Br.hm hr) rfl T.mX.m T.mX.F.kp T.mX.b (aC (aD (oO T) (Br.hm hr) rfl T.c_.m T.c_.F.kp T.c_.b (a_2 (d_v 0) (bu (d_v 2) d_i))) (a_2 (d_v 3) (bf (cR (a_2 d_i d_i)) (B0 rfl T.tU (a_1 (JF (d_v 3) d_i))))))) (d_v 4)))))
  (aj (s_a 6 cy.nd (El rfl T.i7 (a_1 (bf (d_v 5) d_i))))
  (aj (s_a 1 cy.nd (aD (oO T) (Br.hm hr) rfl T.c_.m T.c_.F.kp T.c_.b (a_2 (d_v 0) (bu (d_v 2) d_i))))
  (aj (f9 LC rfl (i_S (cR (aC d_i (a_2 (aT (za T) (Br.hm hr) rfl T.iF.m T.iF.F.kp T.iF.b (a_2 (d_v 1) (d_v 6))) (aT (za T) (Br.hm hr) rfl T.iF.m T.iF.F.kp T.iF.b (a_2 (d_v 1) (d_v 6))))))) (g_n 7 cy.nd)
  (aj (s_a 8 cy.nd (aD (rS T) (Br.hm hr) rfl T.eL.m T.eL.F.kp T.eL.b (aC (d_v 3) (a_2 (d_v 4) (aD (zb T) (Br.hm hr) rfl T.iG.m T.iG.F.kp T.iG.b (a_2 (d_v 6) (d_v 7)))))))
  (AF 9 ht cy.nd (fF T) (Br.hm hr) rfl T.tZ T.qy.kp T.C4 (a_2 (d_v 5) (d_v 7))
  (JX (t_w (w_or (dm (dw (gZ jX (by rfl) rfl T.i7 rfl T.a_ (d_v 9)))) (jV (ly hr (d_v 9) (d_v 8))))) (aA (s_r d_b))
  (m_c (Fj LC rfl rfl T.cL (a_1 (dj rfl T.dG (a_1 (d_v 9)))) (g_n 10 cy.nd)
  (Ic 11 12 rfl cy.nd (d_v 10) (t_w (w_or (dm (dw (gZ jX (by rfl) rfl T.i7 rfl T.a_ (d_v 12)))) (w_or (dm (dw (aD (zc T) (Br.hm hr) rfl T.iH.m T.iH.F.kp T.iH.b (a_1 (d_v 12))))) (jV (dm (dw (aD (zc T) (Br.hm hr) rfl T.iH.m T.iH.F.kp T.iH.b (a_1 (d_v 11))))))))) d_b d_i
  (Cf (JZ (ly hr (Ep (d_v 9) (o_s (bu (d_v 10) d_i)) o_n) (Ep (d_v 8) (o_s (bu (d_v 10) d_i)) o_n)) (Cf (J0 d_b)) HW))))
  (Fo (aA (eS (ly hr (uS 1 ht (rR T) (Br.hm hr) rfl T.tZ T.qy.kp T.lH (a_1 (d_v 5)) (d_v 7)) (d_v 8)) (aA (s_r d_b)) cC))))))))
  (aA (eS (t_w (w_or (ly hr (xB ht (rR T) (Br.hm hr) rfl T.tZ T.qy.kp T.FU (a_1 (d_v 5))) (aD (rS T) (Br.hm hr) rfl T.eL.m T.eL.F.kp T.eL.b (aC (d_v 3) (a_2 (d_v 4) (d_v 6))))) (jV (ly hr (d_v 5) (e9 (aC (d_v 3) (a_2 (d_v 4) (d_v 6)))))))) (aA (s_r d_b)) cC))))))))))
  (aA (s_r d_b))))),D8 (n:=1) (m:=12) rfl h⟩
end
section
variable{fH fJ fK eE fL:Value}{fG:Option Addr}{bL:Option Addr}{dc:Addr}{bK:Value}{bX:Nat}
theorem kY{K:gb}{eu:Tok}{bM:Array (Option Value)}(iI:K.lookup dc=some ⟨bK,bL,.seq #[.int 0 eu] bX,bM⟩):Binds K (K1 "small_cuts" "small_cuts" (aR (top 30)) (aH (top 30)) (aa (top 30)) (.ref dc) fH fJ fK fG eE fL) ["net","t"] []:=fun s us hIn hl=>match us,hl with | [_,_],_=>NP hIn rfl iI rfl rfl rfl
theorem iJ{az:Addr}(eG:eE=.ref az):(K1 "small_cuts" "small_cuts" (aR (top 30)) (aH (top 30)) (aa (top 30)) (.ref dc) fH fJ fK fG eE fL).code=.ref az:=eG
theorem jq{K:gb}{eu:Tok}{bM:Array (Option Value)}(iI:K.lookup dc=some ⟨bK,bL,.seq #[.int 0 eu] bX,bM⟩):Binds K (K1 "small_cuts" "small_cuts" (aR (top 30)) (aH (top 30)) (aa (top 30)) (.ref dc) fH fJ fK fG eE fL) ["net","t"] [.int 0 eu]:=fun s us hIn hl=>xg (C:=fun us=>BindsTo s (K1 "small_cuts" "small_cuts" (aR (top 30)) (aH (top 30)) (aa (top 30)) (.ref dc) fH fJ fK fG eE fL) ⟨us,[]⟩ ((["net","t"]:List Str).zip (us++[.int 0 eu]))) (by simpa using hl) fun _=>NP hIn rfl iI rfl rfl rfl
theorem jr{K:gb}{eu:Tok}{bM:Array (Option Value)}(iI:K.lookup dc=some ⟨bK,bL,.seq #[.int 0 eu] bX,bM⟩):iN K (K1 "small_cuts" "small_cuts" (aR (top 30)) (aH (top 30)) (aa (top 30)) (.ref dc) fH fJ fK fG eE fL) ["net","t"] ["t"] (kw1 1) (kw1 1):=AG fun s v0 v1 hIn=>NP hIn rfl iI rfl rfl rfl
theorem all_mk{l:NO}{w:World}{K:gb}{mg:Str->Option Value}{fa a bY bZ:Addr}{fd:FuncData}(hfa:mg "law" = some (.ref fa))(h:H3 mg K "law" (top 50) a fd ["script"])
  (TT:∀base:Heap,K.In base->(∀z∈tbq bY bZ,ir mg base z)->∃T:Txt mg K base,T.yt=a/\T.rN=fd/\T.az=bY/\T.aF=bZ) :
  ∃fd:FuncData,(∀(s:Shared) (v:Value),BindsTo s fd ⟨[v],[]⟩ [("script",v)])/\∀base:Heap,K.In base->base.Ns mainGlobals mg->(∀z∈tbq bY bZ,ir mg base z)->aO l.prog w K mg base CX0 11 fa fd ["script"] (spT (tbq bY bZ) mK):=by
 have e:=hfa.symm.trans h.m;cases e;refine⟨_,fun s v=>h.hs.J1 (fun _ _ _ _ _ _ _=>rfl) s v,fun base Xb _ hBT=>?_⟩;obtain⟨T,rfl,rfl,rfl,rfl⟩:=TT base Xb hBT;exact Gq T
theorem walk{az aF:Addr}{l:NO}{q:Program}{loose:List Str}{XP:(Str->Option Value)->Heap->Prop}{YP:World->Heap->Prop}{d:DefRec}{K:Params->gb}(hn:l.most=some 63)(hdf:d.params.defaults=[])
  (hY:∀(w:World) (h:Heap),YP w h->(K w.params).In h) (hT:∀(w:World) (h:Heap),YP w h->∀P∈([aF]:List Addr),h.get? P=some (Ni #[])) (hC:∀(w:World),PySem.W.codeHdIn (K w.params) az aF=true) (hKt:∀w:World,NX (K w.params)=true) (M:∀ns:List Int,ns.length<=63->mK [.lst (ns.map Dat.int)]=some (.val (.bl true))) (hK:∀w:World,wD (K w.params)=true)
  (F:∀ (w:World) (mg:Str→Option Value) (fa:Addr) (h:Heap),(K w.params).In h→h.Ns mainGlobals mg→mg d.name=some (.ref fa) →
   ∃fd:FuncData,(∀(s:Shared) (u:Value),BindsTo s fd ⟨[u],[]⟩ [("script",u)])/\∀base:Heap,(K w.params).In base->base.Ns mainGlobals mg->(∀z∈tbq az aF,ir mg base z)->aO l.prog w (K w.params) mg base CX0 11 fa fd ["script"] (spT (tbq az aF) mK)) :
  PySem.W.WalkO q loose XP YP l.row.toRowW d [] (fun f vs=>PySem.call f vs):=
 Br.xC (n:=63) (k:=11) (x := "script") (tb:=tbq az aF) hn (by decide) hdf ⟨rfl,by decide,by decide,rfl⟩ hY (fun w h Y z hz=>by rw[KS.mp hz];exact⟨PySem.W.codeHd_of_K (hY w h Y) (hC w),hT w h Y _ (.head _)⟩) (by simp) hKt F
  fun w H a ns hl hS=>Ex (M ns hl) (hK w) hS
end
end Q
noncomputable def PySem.W.Fast.tw3374295954638630220:PySem.Program:=PySem.Challenge.pw_sinceply_k30_small_cuts_told
theorem PySem.W.Fast.te3374295954638630220:PySem.Challenge.pw_sinceply_k30_small_cuts_told=PySem.W.Fast.tw3374295954638630220:=rfl
namespace PySem.W.Fast
def tw14571808030097471309:=0
def tw15966470237028261756:=0
def tw13321569212747507072:=0
def tw7015576347993157654:=0
def tw2592728895277723867:=0
def tw13997741449653407378:=0
def tw3385883765778100413:=0
def tw2402111440111056391:=0
def tw6132191808202885084:=0
def tw1528169846513305395:=0
def tw3677935095117251905:=0
def tw636898227203626063:=0
def tw17509107806092428361:=0
def tw13472267910771255837:=0
def tw3395147783881031324:=0
def tw2344722653951183056:=0
def tw7650102565702233849:=0
def tw15213091655303948410:=0
def tw4083734078143315595:=0
def tw14144461657271831095:=0
def tw3624112543959532380:=0
def tw5017612408801425475:=0
def tw11720343281856405209:=0
def tw2423399333522764590:=0
def tw13841752593517661681:=0
def tw7711930712602786082:=0
def tw8508368035221900902:=0
def tw15419437790479830664:=0
def tw15368965360431148712:=0
def tw5308090792081283617:=0
def tw17263828022456893382:=0
def tw17118871214696207065:=0
def tw12681651770541273656:=0
def tw4087247457047593456:=0
def tw11097559264913037403:=0
def tw5277984572518158261:=0
def tw6031859447664555667:=0
def tw1415771527324514546:=0
def tw8322835393148401611:=0
def tw34643784375801762:=0
def tw6371059580745984472:=0
def tw14905516913486307546:=0
def tw16902216394395868176:=0
def tw3629539969416279446:=0
def tw4415133155365562867:=0
def tw668394184161473851:=0
def tw4473546511604911965:=0
def tw206026289974638568:=0
def tw1114407943819271090:=0
def tw9236329643818839709:=0
def tw8654530059131851565:=0
def tw18019949611713289045:=0
def tw4421177020086911278:=0
def tw2345471987441931258:=0
def tw1286818130148205214:=0
def tw7433759930794163976:=0
def tw6854791913634073371:=0
def tw17591092422322934252:=0
def tw12608588069085036444:=0
def tw10250919751129768457:=0
def tw10763668865619776144:=0
def tw3293127791171739729:=0
def tw10305629685555415174:=0
def tw10044868742144130673:=0
def tw17316831587263726159:=0
def tw18354524610039444490:=0
def tw8181342695265377397:=0
def tw8096802989035988178:=0
def tw10687376009280211558:=0
def tw8062885976834279632:=0
def tw8675005211027616593:=0
def tw7921065976805401958:=0
def tw5260322141810018897:=0
def tw6507780410350043397:=0
def tw6423109322659445786:=0
def tw10043532634823039884:=0
def tw15674530377764895167:=0
def tw3962176923673336103:=0
def tw10162886447034830835:=0
def tw16935715265968153509:=0
def tw9950395462115416770:=0
def tw15649921562070543240:=0
def tw2716647162747435337:=0
def tw9959834260529736953:=0
def tw16343174828040792744:=0
def tw4531818862965123342:=0
def tw15468267547780311817:=0
def tw16044567875786763290:=0
def tw8658832682957006836:=0
def tw13100617572031159629:=0
def tw15678339853723384494:=0
def tw18062921227740042857:=0
def tw17870159127139287040:=0
def tw6179346121049483392:=0
def tw4731434985794010144:=0
def tw10210969397300911795:=0
def tw2398986937600821286:=0
def tw4118054400040025762:=0
def tw8807952241602416775:=0
def tw5529076087585715463:=0
def tw11093449857211521215:=0
def tw8488718002409836667:=0
def tw8261943978031911635:=0
def tw13955919602181330136:=0
def tw10032227159305443207:=0
def tw12263144323462393886:=0
def tw3904842737414069399:=0
def tw45937645452784767:=0
def tw14901785062184263422:=0
def tw12074219629159492168:=0
def tw17240254507759209239:=0
def tw16175396952139235926:=0
def tw1542936493313059695:=0
def tw5267135894378842051:=0
def tw1552585748946225090:=0
def tw16082177492625782938:=0
def tw16040863922594031781:=0
def tw14587321192957774004:=0
def tw790058193142362437:=0
def tw3652295860146969210:=0
def tw4373729395368405825:=0
def tw4653498677467619177:=0
def tw1054827474863988367:=0
def tw1604495104274103926:=0
def tw13050811887177071619:=0
def tw2052840584661833524:=0
def tw15913312756501231674:=0
def tw615624972541259131:=0
def tw10276812144798337041:=0
def tw13283849561555477917:=0
def tw7624895259129603865:=0
def tw16107316147372969756:=0
def tw15528265967152573363:=0
def tw16568845069785192352:=0
def tw16005417898066311825:=0
def tw3439193575906836996:=0
def tw9225695170369987176:=0
def tw5305800224557838472:=0
def tw12265723783475235961:=0
def tw5454323430892017208:=0
def tw1141325489566223732:=0
def tw13531405633138862914:=0
def tw10185201420957203266:=0
def tw7114814147883796729:=0
def tw6606531797577932848:=0
def tw1084031964455774829:=0
def tw8067674799628261751:=0
def tw15396502194745614358:=0
def tw6735885637366640397:=0
def tw9004676455691049271:=0
def tw6665900080022073069:=0
def tw13297886516016380591:=0
def tw10901999452679233948:=0
def tw7428187427909666460:=0
def tw1579113416956321630:=0
def tw13468273249328961858:=0
def tw1415624057297643727:=0
def tw16201921994653967503:=0
def tw14916402597554979350:=0
def tw16434801531535419787:=0
def tw17116090044965599261:=0
def tw8132725404464448339:=0
def tw14288584619727323050:=0
def tw4216171370854025902:=0
def tw2374725353498968615:=0
def tw9710791820660054828:=0
def tw11828121371301958408:=0
def tw5431940103645570273:=0
def tw7848935362285650512:=0
def tw6620903412994254850:=0
def tw18389898684291880313:=0
def tw12572394835096360836:=0
def tw7393980946321324514:=0
def tw9822257646079936044:=0
def tw18337990322485591209:=0
def tw539652409789355132:=0
def tw15951560922473325015:=0
def tw17039342530285821947:=0
def tw483063129093426500:=0
def tw7786528609609138140:=0
def tw2230931981370549732:=0
def tw7322780675923002581:=0
def tw12991250692961170803:=0
def tw8427080772021057066:=0
def tw10514521920111656527:=0
def tw18005243073439231505:=0
def tw14447922888251397183:=0
def tw17761776181135657889:=0
def tw12929113956269227909:=0
def tw488604794188292189:=0
def tw7067631490614793412:=0
def tw4397259564508551144:=0
def tw4264113826282172626:=0
def tw13514857540917507446:=0
def tw7026490219371566200:=0
def tw8424224708827770539:=0
def tw1708192461073262175:=0
def tw16150784449486212827:=0
def tw1649402400271053726:=0
def tw12980876816692179158:=0
def tw4272741791405280893:=0
def tw15408753226412487969:=0
def tw14491068717600149416:=0
def tw15241705889169168479:=0
def tw12135683674629835144:=0
def tw15856155380337355619:=0
def tw5736229853039083664:=0
def tw12034375349834004092:=0
def tw5330896750578616155:=0
def tw14431450909406562835:=0
def tw2833217194503389358:=0
def tw7345991252855299881:=0
def tw17819852132527324218:=0
def tw6154681352716660268:=0
def tw5601594774681330920:=0
def tw18237100758838319574:=0
def tw16248008568886080401:=0
def tw7523006565727250581:=0
def tw5025042948157904552:=0
def tw2231788746118970910:=0
def tw14259007395242618547:=0
def tw5864723129003693920:=0
def tw12632510012418926267:=0
def tw18211335664536995302:=0
def tw257628721433268011:=0
def tw14504151475470794939:=0
def tw8416423022231561429:=0
def tw14538742698464016893:=0
def tw9309407492579579341:=0
def tw322896924945752909:=0
def tw3449010983683990684:=0
def tw3939538661098492814:=0
def tw7004753834876058940:=0
def tw7326444597411658027:=0
def tw17133112631312573280:=0
def tw15580501481369283969:=0
def tw15528560265537775413:=0
def tw9722055398872309917:=0
def tw15864008575706373273:=0
def tw14676056122531237502:=0
def tw10339848671222393998:=0
def tw15856822163785998640:=0
def tw13428496701907567396:=0
def tw13521246288505743236:=0
def tw16199243758869152392:=0
def tw10087191111923157991:=0
def tw4898360684610327968:=0
def tw8174208533528265114:=0
def tw7039896922467497225:=0
def tw18287632581113980749:=0
def tw4331154426424330014:=0
def tw16327935724172660840:=0
def tw4209548358121074241:=0
def tw7732768185867666161:=0
def tw5043639008174463600:=0
def tw12439476161530040219:=0
def tw388999670217229400:=0
def tw17505159134147820096:=0
def tw17951839700677193896:=0
def tw10897069717901049622:=0
def tw9551446238543304056:=0
def tw18314348131835814806:=0
def tw60157705212377229:=0
def tw1729781190147091370:=0
def tw873052680181434782:=0
def tw11371802385596051873:=0
def tw5329287652690211830:=0
def tw1707289198829015497:=0
def tw9241216544587319045:=0
end PySem.W.Fast
open PySem PySem.W PyProof.Rows
set_option maxRecDepth 100000 in
set_option maxHeartbeats 0 in
theorem PySem.Challenge.cw_sinceply_k30_small_cuts_told_holds : PySem.Challenge.rw_sinceply_k30_small_cuts_told.Holds := by
 w_on;o_law;k_head;(case hw=>w_witness2)
 k_fill
 refine' Q.walk (l:=PySem.Challenge.rw_sinceply_k30_small_cuts_told) rfl rfl (fun w h Y=>PySem.W.km_in_of Y) (fun w h Y=>PySem.W.km_tabs_of Y) ?hC ?hKt P.math ?noL ?fnS
 case noL=>intro w;rfl
 case fnS=>
  intro w mg fa h KX G hmg
  refine' Q.all_mk hmg ?yW ?TT
  case yW=>refine' Br.aY KX G ?e ?l ?c ?k ?b;(case e=>k_is);(case l=>k_is);(case c=>k_is);(case k=>k_is);(case b=>intro F;first | exact F.aL rfl fun _ _ _ _ _ _ _=>rfl | exact F.aM rfl fun _ _ _ _ _ _ _ _=>rfl | exact F.aN rfl fun _ _ _ _ _ _ _ _ _=>rfl)
  case TT=>
   intro base Xb hBT
   refine' ⟨⟨Br.mno KX G ?I_,Br.mno KX G ?Gr,Br.mno KX G ?qA,Br.mno KX G ?Ja,Br.mno KX G ?oQ,Br.mno KX G ?Jb,Br.mno KX G ?Gs,Br.mno KX G ?Jc,Br.mno KX G ?Jd,Br.mno KX G ?BE,Br.mno KX G ?rT,Br.mno KX G ?zd,Br.mno KX G ?Je,Br.mno KX G ?BF,Br.mno KX G ?Jf,hBT _ (.head _),Br.mgt KX G ?qB,Br.mgo KX G ?Jg,?ve,?gI,?vf,?oG,?oH,?vg,?vh,?vj,?vm,?vn,?iC,?mP,?mQ,?iD,?mR,?mS,?mT,?mU,?iE,?mV,(Q.iJ ?eG),(Br.Af (st:=Q.top 30) ?Jh ?Ji ?Jj),?c_,?aB,?mW,?mX,?iF,?iG,?mY,?iH,?mZ,?m5,?eL,?m6,(Q.kY ?iI),(Q.jq ?iI),(Q.jr ?iI),?m7,?Jk⟩,rfl,rfl,rfl,rfl⟩
   case ve|gI|vf|oG|oH|vg|vh|vj|vm|vn|iC|mP|mQ|iD|mR|mS|mT|mU|iE|mV=>refine' Br.aY KX G ?e ?l ?c ?k ?b;(case e=>k_is);(case l=>k_is);(case c=>k_is);(case k=>k_is);(case b=>intro F;first | exact F.aL rfl fun _ _ _ _ _ _ _=>rfl | exact F.aM rfl fun _ _ _ _ _ _ _ _=>rfl | exact F.aN rfl fun _ _ _ _ _ _ _ _ _=>rfl)
   case Jg|Jh|Ji|Jj|iI=>k_is
   case c_|aB|mW|mX|iF|iG|mY|iH|mZ|m5|eL|m6|m7|Jk=>refine' Br.aY KX G ?e ?l ?c ?k ?b;(case e=>k_is);(case l=>k_is);(case c=>k_is);(case k=>k_is);(case b=>intro F;first | exact F.aL rfl fun _ _ _ _ _ _ _=>rfl | exact F.aM rfl fun _ _ _ _ _ _ _ _=>rfl | exact F.aN rfl fun _ _ _ _ _ _ _ _ _=>rfl)
   case I_|Gr|qA|Ja|oQ|Jb|Gs|Jc|Jd|BE|rT|zd|Je|BF|Jf|qB=>k_is
   case eG=>rfl
 case hC=>intro w;kernel_rfl
 case hKt=>intro w;kernel_rfl
end
