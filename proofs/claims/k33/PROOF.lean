import PyProof.Rows.All
import Wide.All
import OpenK.AllK
import Wide.FinOn
import Lean
import PyProof.EqAt
import PyProof.EqKinds
import PyProof.TupleCall
import KE.KRevIter
import PyProof.EnumMake
import PyProof.EnumFor
import PyProof.ListRange
import PyProof.Rows.Range3
import PyProof.ZipIter
import PyProof.SumWalk
import PyProof.WalksMore
import PyProof.Rows.SetFrom
import PyProof.SetRoads
import PyProof.Rows.SortRunsK
import PyProof.Rows.SortWalk
import KE.KSortTup
import PyProof.Rows.Own
import PyProof.StationsW
import OpenK.KRaise
import KE.KIsAll
import PyProof.ExcArgsOwn
import PyProof.RulesAs
import PyProof.Ns1
import PyProof.Rows.Catch
import OpenK.KOwn
import PyProof.ExcBaseAll.ValueError
import KE.KDictSum
import PyProof.AttrMiss
import PyProof.IsiH_list
import KE.KDictOf
import PyProof.DictList
import KE.KDictList
import PyProof.FactsAll.set
import PyProof.Rows.TupAdd
import KE.KDictMeth
import PyProof.DictWalks
import PyProof.TupleKey
import PyProof.DictStraight
import PyProof.IsRules
import KE.KRevSl
import PyProof.Rows.CallKwBuiltin
import PyProof.Rows.SortShell
import KE.KSortKey
import KE.KLam
import KE.KNestM
import PySem.Challenge.RW_sinceply_k33_whole_cuts_of_the_record
open Array renaming length_toList→TH,toList_append→T5,size_push→Uh,getElem?_toList→Um,toList_extract→UT,perm_iff_toList_perm→Vl,toList_reverse→Vp,size_extract→Vx,toList_push→Vz,size_append→VX,find?_toList→Wv
open Bool renaming and_eq_true→TN,false_ne_true→Ua,false_eq_true→UN,eq_iff_iff→WW,or_eq_true→WX,and_comm→Xc
open False renaming elim→TF
open ForInStep renaming yield→UK
open List renaming getElem?_set_ne→gc,replicate→Dk,length_map→Dp,map_cons→PU,size_toArray→Sx,getElem?_eq_some_iff→Tj,mem_cons_self→To,mem_cons→Tp,mem_cons_of_mem→Tq,getElem?_append_left→Tr,getElem?_append_right→Tt,getElem?_eq_getElem→Tv,length_append→Tz,mem_singleton→TJ,getElem?_map→TM,getElem?_set_self→TR,range→TV,mem_append_right→TY,filter_cons→T7,mem_append→T9,append_nil→Uc,pairwise_append→Ud,length_set→Ug,getElem?_replicate→Ui,getElem?_eq_none→Uk,set_append_right→Uo,lookup_cons→Up,length_range→Uq,map_append→Uw,pairwise_cons→Ux,length_cons→Uy,drop_eq_getElem_cons→Uz,extract_eq_take_drop→UA,nodup_cons→UB,length_take→UD,all_eq_true→UE,getD_eq_getElem?_getD→UG,length_reverse→UI,mem_filter→UJ,length_filter_le→UL,zip_cons_cons→UP,mem_append_left→UQ,append_assoc→UU,find?_cons→UX,replicate_succ→UY,take_of_length_le→UZ,mem_map→U0,getElem?_take_of_lt→U3,nil_append→U4,filter_cons_of_neg→U7,filter_cons_of_pos→U8,getElem?_range→U9,not_mem_nil→Vc,map_map→Vg,of_mem_zip→Vh,length_replicate→Vi,take_append_drop→Vk,flatten_cons→Vm,getElem?_set→Vn,mem_of_getElem?→Vo,reverse_append→Vr,filter_eq_self→Vs,getElem?_cons_succ→Vv,any_cons→Vw,filter_filter→Vy,filter_congr→VA,length_singleton→VC,take_left→VG,reverse_reverse→VI,pairwise_iff_getElem→VL,Perm→VO,mem_range→VQ,length_eq_zero_iff→VT,ext_getElem?→VW,map_id→V2,length_drop→V4,drop_length→V5,any_eq_true→V6,getElem?_reverse→V8,mem_of_mem_take→Wc,map_eq_cons_iff→Wf,filterMap_cons→Wg,getElem_of_mem→Wh,mem_filterMap→Wu,filter_append→Wz,all_cons→WD,Pairwise→WE,reverse_cons→WJ,length_nil→WU,forIn_cons→WV,filter_map→W0,take_zero→W5,map_nil→Xd,set_set→Xe,foldl→Xh
open Nat renaming ne_of_lt→Tu,lt_of_lt_of_le→Tw,zero_le→T8,le_of_ble_eq_true→Ut,lt_irrefl→Uu,lt_succ_of_lt→UH,ne_of_gt→UM,lt_of_le_of_lt→Ve,zero_add→VE,sub_self→VF,not_lt→VH,le_of_lt→VM,le_succ→V1,add_sub_cancel→Wy,lt_succ_self→WK,le_of_eq→WL
open Ne renaming symm→Ue
open Option renaming isSome_iff_exists→Uj,isSome_map→VU
open PyProof.Rows renaming callWith_type1→Ub,boot_isinstance→Vb
open PyProof.Rows.KeyOrd renaming kle_of_klt→Ur,kle_refl→UC,kle_trans→UO
open PyProof.Rows.SortSt renaming mk'→VS
open PySem.Builtin.Int renaming intBits→Wj
open PySem.Builtin.List renaming listExtendWith→Vf,listTooLong→Vq
open PySem.Builtin.Range renaming rangeSize→U6
open PySem.Builtin.Tuple renaming tupleCompareSizes→Vt
open PySem.Calls renaming spliced_nil→U5,callWith_builtin→V0,evalArgs_plain→Wa,spliced_cons→Ww
open PySem.Data renaming cell→Wq,fields→W3
open PySem.F renaming plainAttrs_list→Vu,slot_dict_get→V7
open PySem.Heap renaming get?_push_of_some→gV,lt_size→Tn,get?_push_size→TQ,get?_update_ne→Us,get?_push_ne→UW,size_update→Vd,get?_update_self→VB,size_push→VD,SameBut→VN,get?_update_other→VZ,get?_none_of_le→V9
open PySem.NameKind renaming cell→W8
open PySem.Obj renaming mapSeq→T3,dropNameByArray→VJ,dropName_eq→Wd
open PySem.PassesOwn renaming never→T6
open PySem.PyData renaming eqv→US,depthAll→Vj,eqvAll→WC,canLayAll0→WI
open PySem.Str renaming ofString→WM
open PySem.Value renaming ref→TZ,type→VP,builtin→WG,str→WO,isStr→Xf,bool→Xg
open PySem.W renaming Frag→eg,nsIn→TU,fnOf→TX,keepIn→Ul,kia_one→Uv,kitOne→UR,codeIn→Va,findIn→VR,cellsFrom_some→VY,mroIn→V3,kitAny→Wm,CodeHd→Wn,tabObj→Wo,callWith_K→Wx,methodObj→WH,kat_cons→WN,instObj→WQ,hideAll→WS,kat_yes→WY,OpenLaw→WZ,binds_K→W2,lookIn→W4,kla_fn→W6,noTabs→W7,clsIn→W9,excIn→Xa
open Sum renaming inl→T4,inr→Wl
open True renaming intro→U1
noncomputable section
set_option Elab.async false
set_option linter.all false

set_option maxRecDepth 100000
local macro_rules|`(tactic|trivial)=>`(tactic|first|exact Or.inl rfl|exact Or.inr rfl|exact Or.inr (Or.inl rfl)|exact Or.inr (Or.inr rfl)|assumption)
local macro_rules|`(tactic|and_intros)=>`(tactic|dsimp only[List.map,List.replicate,List.cons_append,List.nil_append])
namespace L2
open PySem PySem.Spec PyProof.Rows
section
variable{a b:Addr}{H:Hp}{o:HO}
noncomputable abbrev Key:=Sum Int Str
noncomputable def qd:Key->Value->Bool
 |.inl k,v=>Value.isInt k v
 |.inr x,v=>Value.isStrOf x v
noncomputable def RK(w:World):Key->Int
 |.inl k=>hashInt k
 |.inr x=>hashStr w x
theorem bw:∀{k:Key} {v:Value},qd k v=true->(∃i t,k=T4 i/\v=Value.int i t)\/(∃x t,k=Wl x/\v=WO x t)
 |.inl i,v,h=>by obtain⟨t,e⟩:=Value.isInt_shape (k:=i) (v:=v) h;exact .inl ⟨i,t,rfl,e⟩
 |.inr x,v,h=>by obtain⟨t,e⟩:=Value.isStrOf_shape (x:=x) (v:=v) h;exact .inr ⟨x,t,rfl,e⟩
theorem zS(i:Int)(t:Tok):qd (.inl i) (.int i t)=true:=by simp[qd,Value.isInt]
theorem zT(x:Str)(t:Tok):qd (.inr x) (.str x t)=true:=by simp[qd,Value.isStrOf]
theorem Ko(a b:Int):decide ((T4 a:Key)=T4 b)=(a == b):=by
 by_cases e:a=b
 ·subst e;simp
 ·have h:¬(T4 a:Key)=T4 b:=fun q=>e (T4.inj q);rw[decide_eq_false h];exact(beq_eq_false_iff_ne.mpr e).symm
theorem Kp(a b:Str):decide ((Wl a:Key)=Wl b)=decide (a=b):=by
 by_cases e:a=b
 ·subst e;simp
 ·have h:¬(Wl a:Key)=Wl b:=fun q=>e (Wl.inj q);rw[decide_eq_false h,decide_eq_false e]
theorem Kq(a:Int)(b:Str):decide ((T4 a:Key)=Wl b)=false:=decide_eq_false (fun q=>nomatch q)
theorem Kr(a:Str)(b:Int):decide ((Wl a:Key)=T4 b)=false:=decide_eq_false (fun q=>nomatch q)
noncomputable def aY(prog:Program)(w:World):PySem.KeyKind prog w Key where
 is:=qd
 hash:=RK w
 inj:=fun v a b ha hb=>by
  rcases bw ha with⟨i,t,rfl,rfl⟩ | ⟨x,t,rfl,rfl⟩
  ·rcases bw hb with⟨j,u,rfl,e⟩ | ⟨y,u,rfl,e⟩
   ·injection e with e1 _;rw[e1]
   ·exact nomatch e
  ·rcases bw hb with⟨j,u,rfl,e⟩ | ⟨y,u,rfl,e⟩
   ·exact nomatch e
   ·injection e with e1 _;rw[e1]
 byValue:=fun k v h=>by rcases bw h with⟨i,t,rfl,rfl⟩ | ⟨x,t,rfl,rfl⟩<;>rfl
 pyHash:=fun hv h=>by
  rcases bw hv with⟨i,t,rfl,rfl⟩ | ⟨x,t,rfl,rfl⟩
  ·exact wpAny_pyHash_int h
  ·exact wpAny_pyHash_str h
 eqBool:=fun hu hv h=>by
  rcases bw hu with⟨i,t,rfl,rfl⟩ | ⟨x,t,rfl,rfl⟩
  ·rcases bw hv with⟨j,u,rfl,rfl⟩ | ⟨y,u,rfl,rfl⟩
   ·rw[Ko]at h;exact wpAny_eqBool_int h
   ·rw[Kq]at h;exact SeqAt.EqAt.int_str i t y u _ _ _ _ h
  ·rcases bw hv with⟨j,u,rfl,rfl⟩ | ⟨y,u,rfl,rfl⟩
   ·rw[Kr]at h;exact SeqAt.EqAt.str_int x t j u _ _ _ _ h
   ·rw[Kp]at h;exact wpAny_eqBool_str h
 «strs»:=fun k x t v h=>by
  rcases bw h with⟨i,u,rfl,e⟩ | ⟨y,u,rfl,e⟩
  ·exact nomatch e
  ·injection e with e1 _
   subst e1;cases v<;>rfl
theorem tL(prog:Program)(w:World)(i:Int)(t:Tok):(aY prog w).is (.inl i) (.int i t)=true:=zS i t
theorem tM(prog:Program)(w:World)(x:Str)(t:Tok):(aY prog w).is (.inr x) (.str x t)=true:=zT x t
inductive V where
 |non | bl (b:Bool) | int (i:Int) | str (x:Str) | byt (b:Array UInt8) | flt (b:UInt64) | ref (a:Addr) | ty (n:String)
 deriving DecidableEq
def RelV:V->Value->Prop
 |.non,u=>u=Value.none
 |.bl b,u=>u=Xg b
 |.int i,u=>∃t,u=Value.int i t
 |.str x,u=>∃t,u=WO x t
 |.byt b,u=>∃t,u=Value.bytes b t
 |.flt b,u=>∃t,u=Value.float b t
 |.ref a,u=>u=TZ a
 |.ty n,u=>u=VP n
noncomputable abbrev Vals:List V->List Value->Prop:=Paired RelV
theorem Vals.length{xs:List V}{us:List Value}(r:Vals xs us):xs.length=us.length:=Paired.length r
theorem Vals.get:∀{xs:List V} {us:List Value} {i:Nat} {x:V},Vals xs us->xs[i]?=some x->∃u,us[i]?=some u/\RelV x u
 |_,_,_,_,.nil,e=>by simp at e
 |_,_,0,_,.cons r _,e=>by simp at e;subst e;exact⟨_,rfl,r⟩
 |_,_,i+1,x,.cons _ t,e=>by obtain⟨u,h1,h2⟩:=Vals.get (i:=i) (x:=x) t (by simpa using e);exact⟨u,by simpa using h1,h2⟩
theorem Vals.set{x:V}{u:Value}(r:RelV x u):∀{xs:List V} {us:List Value} (i:Nat),Vals xs us->Vals (xs.set i x) (us.set i u)
 |_,_,_,.nil=>.nil
 |_,_,0,.cons _ t=>.cons r t
 |_,_,i+1,.cons q t=>.cons q (Vals.set r i t)
theorem Vals.append:∀{xs ys:List V} {us ws:List Value},Vals xs us->Vals ys ws->Vals (xs++ys) (us++ws)
 |_,_,_,_,.nil,s=>s
 |_,_,_,_,.cons r t,s=>.cons r (Vals.append t s)
theorem Vals.take:∀{xs:List V} {us:List Value} (n:Nat),Vals xs us->Vals (xs.take n) (us.take n)
 |_,_,0,_=>.nil
 |_,_,_+1,.nil=>.nil
 |_,_,n+1,.cons r t=>.cons r (Vals.take n t)
theorem Vals.drop:∀{xs:List V} {us:List Value} (n:Nat),Vals xs us->Vals (xs.drop n) (us.drop n)
 |_,_,0,r=>r
 |_,_,_+1,.nil=>.nil
 |_,_,n+1,.cons _ t=>Vals.drop n t
def jx:Option V->Option Value->Prop
 |some v,some u=>RelV v u
 |none,none=>True
 |_,_=>False
def KV{κ:Type}:List (κ×V)->List (κ×Value)->Prop:=Paired fun(p:κ×V) (q:κ×Value)=>p.1=q.1/\RelV p.2 q.2
noncomputable def kV:Key->V
 |.inl i=>.int i
 |.inr x=>.str x
inductive HO where
 |lst (xs:List V)
 |tup (xs:List V)
 |dK (kvs:List (Key×V)) | dT (kvs:List (List Key×V))
 |set (S:Int->Bool) (n:Nat)
 |ins (C dx:Addr) (fs:List (Str×V))
 |own (x:Addr)
 |xd (fs:List (Str×V))
 |met (f x:Addr)
 |rng (lo hi:Int)
 |frz (o:Obj) (u:HO)
 |tbl (ln cl:Value) (q:Str)
 |ext (φ:Heap->Prop)
noncomputable abbrev Hp:=Addr->Option HO
noncomputable def upd(H:Hp)(a:Addr)(o:HO):Hp:=fun b=>if b=a then some o else H b
theorem ak{a:Addr}:upd H a o a=some o:=by unfold upd;rw[if_pos rfl]
theorem aj(h:b≠a):upd H a o b=H b:=by unfold upd;rw[if_neg h]
theorem Oi{o u:HO}(h:H a=some o)(h':H b=some u)(d:o≠u):a≠b:=by intro e;subst e;rw[h]at h';exact d (Option.some.inj h')
theorem az(h:H a=some o)(h':H b=none):a≠b:=by intro e;subst e;rw[h]at h';cases h'
end
section
variable(P:Program)(w:World)
def aR(H:Hp)(h:Heap)(a:Addr):HO->Prop
 |.lst xs=>xs.length<=sizeLine/\∃(its:List Value) (n:Nat),Vals xs its/\h.get? a=some { cls:=.type "list",data:=.seq its.toArray n }
 |.tup xs=>xs.length<=sizeLine/\∃its:List Value,Vals xs its/\IsTup h a its.toArray
 |.dK kvs=>kvs.length<=sizeLine/\(a == sysModules)=false/\∃vs,KV kvs vs/\h.DictOf (aY P w) a vs
 |.dT kvs=>kvs.length<=sizeLine/\(a == sysModules)=false/\∃xs:List (List Key×Addr×Value),
   Paired (fun(p:List Key×V) (q:List Key×Addr×Value)=>p.1=q.1/\H q.2.1=some (.tup (p.1.map kV))/\RelV p.2 q.2.2) kvs xs /\
   ∃o es ep,h.get? a=some o/\o.ExactDict/\o.data=.dict es ep/\es.toList=xs.map (entryOfKey (tupleKind (aY P w)))/\(xs.map (·.1)).Nodup
 |.set S n=>h.SetOf (intKind P w) a S n
 |.ins C dx fs=>H dx=some (.own a)/\fs.length<=1000/\dx≠a/\h.get? a=some (WQ C dx) /\
   ∃mA,h.Ns1 dx mA/\(∀f,jx (fs.lookup f) (mA f))/\PySem.Within mA (fs.map (·.1))
 |.own _=>∃o,h.get? a=some o
 |.xd fs=>∃mA,h.Ns1 a mA/\∀f,jx (fs.lookup f) (mA f)
 |.rng lo hi=>∃t u v,h.get? a=some { cls:=.type "range",data:=.fields #[.int lo t,.int hi u,.int 1 v] }
 |.frz o u=>h.get? a=some o/\aR H h a u
 |.tbl ln cl q=>∃ps:Array Value,h.get? a=some { cls:=.none,data:=.fields ps }/\(ps=#[]\/∃(c:Addr) (oc:Obj) (vs:Array Value) (t:Tok),ps=#[ln,cl,.ref c]/\H c=some (.frz oc (.own a))/\oc.data=.fields vs/\vs[1]?=some (.str q t))
 |.met f x=>h.get? a=some (WH (.ref f) (.ref x))
 |.ext φ=>φ h/\(∃o,h.get? a=some o)/\∀h1 h2:Heap,φ h1->(∀o,h1.get? a=some o->h2.get? a=some o)->φ h2
def HOk(H:Hp)(h:Heap):Prop:=∀a o,H a=some o->aR P w H h a o
end
section
variable{P:Program}{w:World}{H H':Hp}{h h':Heap}{a:Addr}{o:HO}
theorem aR.lt(x:aR P w H h a o):a<h.objs.size:=by
 cases o with
 |lst xs=>obtain⟨_,_,_,_,e⟩:=x;exact Tn e
 |tup xs=>obtain⟨_,_,_,p⟩:=x;exact p.lt
 |dK kvs=>obtain⟨_,_,_,_,o,_,_,e,_⟩:=x;exact Tn e
 |dT kvs=>obtain⟨_,_,_,_,o,_,_,e,_⟩:=x;exact Tn e
 |set S n=>obtain⟨o,_,_,_,e,_⟩:=x;exact Tn e
 |ins C dx fs=>obtain⟨_,_,_,e,_⟩:=x;exact Tn e
 |own y=>obtain⟨_,e⟩:=x;exact Tn e
 |xd fs=>obtain⟨_,⟨_,_,_,e,_⟩,_⟩:=x;exact Tn e
 |rng lo hi=>obtain⟨_,_,_,e⟩:=x;exact Tn e
 |frz ob u=>obtain⟨e,_⟩:=x;exact Tn e
 |tbl ln cl q=>obtain⟨_,e,_⟩:=x;exact Tn e
 |met f y=>exact Tn (show h.get? a=some _ from x)
 |ext φ=>obtain⟨_,⟨_,e⟩,_⟩:=x;exact Tn e
theorem Paired.zU{α β:Type}{F G:α->β->Prop}:∀{l₁:List α} {l₂:List β},Paired F l₁ l₂->(∀a b,F a b->G a b)->Paired G l₁ l₂
 |_,_,.nil,_=>.nil
 |_,_,.cons r t,f=>.cons (f _ _ r) (Paired.zU t f)
theorem aR.stay(x:aR P w H h a o)(k:∀b u,(b=a\/H b=some (.own a))->h.get? b=some u->h'.get? b=some u)
  (ho:∀b,H b=some (.own a)->H' b=some (.own a)) (hf:∀b o c,H b=some (.frz o (.own c))->H' b=some (.frz o (.own c))) (ht:∀b xs,H b=some (.tup xs)->H' b=some (.tup xs)):aR P w H' h' a o:=by
 induction o with
 |lst xs=>obtain⟨z,its,n,r,e⟩:=x;exact⟨z,its,n,r,k _ _ (.inl rfl) e⟩
 |tup xs=>obtain⟨z,its,r,ob,e,c⟩:=x;exact⟨z,its,r,ob,k _ _ (.inl rfl) e,c⟩
 |dK kvs=>obtain⟨z,y,vs,r,ob,es,ep,e,c⟩:=x;exact⟨z,y,vs,r,ob,es,ep,k _ _ (.inl rfl) e,c⟩
 |dT kvs=>obtain⟨z,y,xs,r,ob,es,ep,e,c⟩:=x;exact⟨z,y,xs,Paired.zU r fun p q z=>⟨z.1,ht _ _ z.2.1,z.2.2⟩,ob,es,ep,k _ _ (.inl rfl) e,c⟩
 |set S n=>obtain⟨ob,es,ep,t,e,c⟩:=x;exact⟨ob,es,ep,t,k _ _ (.inl rfl) e,c⟩
 |ins C dx fs=>obtain⟨d,z,ne,e,mA,⟨od,es,ep,e2,c⟩,r⟩:=x;exact⟨ho _ d,z,ne,k _ _ (.inl rfl) e,mA,⟨od,es,ep,k _ _ (.inr d) e2,c⟩,r⟩
 |own y=>obtain⟨ob,e⟩:=x;exact⟨ob,k _ _ (.inl rfl) e⟩
 |xd fs=>obtain⟨mA,⟨od,es,ep,e,c⟩,r⟩:=x;exact⟨mA,⟨od,es,ep,k _ _ (.inl rfl) e,c⟩,r⟩
 |rng lo hi=>obtain⟨t,u,v,e⟩:=x;exact⟨t,u,v,k _ _ (.inl rfl) e⟩
 |frz ob u ih=>obtain⟨e,q⟩:=x;exact⟨k _ _ (.inl rfl) e,ih q⟩
 |tbl ln cl q=>
  obtain⟨ps,e,d⟩:=x;refine⟨ps,k _ _ (.inl rfl) e,?_⟩;rcases d with d | ⟨c,oc,vs,t,d,d2,d3⟩
  ·exact .inl d
  ·exact .inr ⟨c,oc,vs,t,d,hf _ _ _ d2,d3⟩
 |met f y=>have e:h.get? a=some (WH (.ref f) (.ref y)):=x;show h'.get? a=some (WH (.ref f) (.ref y));exact k a _ (.inl rfl) e
 |ext φ=>obtain⟨p,⟨o,e⟩,st⟩:=x;exact⟨st _ _ p fun o q=>k _ _ (.inl rfl) q,⟨o,k _ _ (.inl rfl) e⟩,st⟩
theorem HOk.lt(x:HOk P w H h)(e:H a=some o):a<h.objs.size:=(x a o e).lt
theorem HOk.fresh(x:HOk P w H h)(e:h.objs.size<=a):H a=none:=by
 cases q:H a with
 |none=>rfl
 |some u=>exact absurd (Tw (x.lt q) e) (Uu _)
theorem HOk.kept(x:HOk P w H h)(k:∀b u,h.get? b=some u->h'.get? b=some u):HOk P w H h':=fun a o e=>(x a o e).stay (fun b u _ q=>k b u q) (fun _ q=>q) (fun _ _ _ q=>q) fun _ _ q=>q
theorem HOk.laid(x:HOk P w H h)(k:∀b u,h.get? b=some u->h'.get? b=some u)(hp:h.objs.size<=a)(new:aR P w (upd H a o) h' a o):HOk P w (upd H a o) h':=fun b u e=>by
 have hn:=x.fresh hp;by_cases hb:b=a
 ·subst hb;rw[ak]at e;cases e;exact new
 ·rw[aj hb]at e;exact(x b u e).stay (fun c v _ q=>k c v q) (fun c q=>by rw[aj (az q hn)];exact q) (fun c _ _ q=>by rw[aj (az q hn)];exact q) fun c xs q=>by rw[aj (az q hn)];exact q
end
def Rd(H:Hp)(a:Addr)(u:HO):Prop:=H a=some u\/∃o,H a=some (.frz o u)
theorem Rd.ok{P:Program}{w:World}{H:Hp}{h:Heap}{a:Addr}{u:HO}(r:Rd H a u)(x:HOk P w H h):aR P w H h a u:=by
 rcases r with r | ⟨o,r⟩
 ·exact x a u r
 ·obtain⟨_,q⟩:=x a _ r;exact q
def Mut:Option HO->Prop
 |some (.lst _)=>True
 |some (.dK _)=>True
 |some (.dT _)=>True
 |some (.set _ _)=>True
 |some (.ins _ _ _)=>True
 |some (.ext _)=>True
 |_=>False
section
variable{P:Program}{w:World}{H:Hp}{h h':Heap}{x e:Addr}{o':HO}
theorem HOk.write(ok:HOk P w H h)(mu:Mut (H x))(he:e=x\/H e=some (.own x))(k:∀b u,b≠e->h.get? b=some u->h'.get? b=some u)(heo:∃u,h'.get? e=some u)
  (new:aR P w (upd H x o') h' x o'):HOk P w (upd H x o') h':=fun b u q=>by
 have Oj:∀c y,H c=some (.own y)->c≠x:=fun c y r z=>by subst z;rw[r]at mu;exact mu
 have RL:∀c xs,H c=some (.tup xs)->c≠x:=fun c xs r z=>by subst z;rw[r]at mu;exact mu
 have RM:∀c o y,H c=some (.frz o y)->c≠x:=fun c o y r z=>by subst z;rw[r]at mu;exact mu
 by_cases hb:b=x
 ·subst hb;rw[ak]at q;cases q;exact new
 ·rw[aj hb]at q;by_cases hbe:b=e
  ·have q':H b=some (.own x):=by
    rcases he with z | z
    ·exact absurd (hbe.trans z) hb
    ·rw[hbe];exact z
   rw[q]at q';cases q';obtain⟨v,hv⟩:=heo;exact⟨v,by rw[hbe];exact hv⟩
  ·refine(ok b u q).stay (fun c v hc r=>k c v ?_ r) (fun c r=>by rw[aj (Oj c b r)];exact r) (fun c _ _ r=>by rw[aj (RM c _ _ r)];exact r) fun c xs r=>by rw[aj (RL c xs r)];exact r
   rcases hc with rfl | hc
   ·exact hbe
   ·rintro rfl;rcases he with z | z
    ·exact Oj c b hc z
    ·rw[hc]at z;cases z;exact hb rfl
end
structure Un(fs ex:List Addr)(H H':Hp)(h h':Heap):Prop where
 keep:∀b o,h.get? b=some o->H b=none->b∉fs->b∉ex->h'.get? b=some o
 slot:∀b o,h.get? b=some o->H b=none->b∈fs->b∉ex->∃sl,h'.get? b=some { o with slots:=sl }
 free:∀b o,h.get? b=some o->H b=none->b∉ex->H' b=none
 there:∀b o,h.get? b=some o->b∉ex->∃o',h'.get? b=some o'
 tups:∀b xs,H b=some (.tup xs)->H' b=some (.tup xs)
 lQ:∀b o u,H b=some (.frz o u)->H' b=some (.frz o u)
 jy:∀b x y z,H b=some (.tbl x y z)->H' b=some (.tbl x y z)
section
variable{fs fs' ex ex':List Addr}{H H1 H2:Hp}{h h1 h2 h':Heap}{a x e:Addr}{o:HO}
theorem Un.any(u:Un fs ex H H1 h h1){b:Addr}{ob:Obj}(q:h.get? b=some ob)(n:H b=none)(hx:b∉ex):∃sl,h1.get? b=some { ob with slots:=sl }:=by
 by_cases hb:b∈fs
 ·exact u.slot b ob q n hb hx
 ·exact⟨ob.slots,u.keep b ob q n hb hx⟩
theorem Un.kept(k:∀b u,h.get? b=some u->h'.get? b=some u):Un fs ex H H h h':=
 ⟨fun b ob q _ _ _=>k b ob q,fun b ob q _ _ _=>⟨ob.slots,k b ob q⟩,fun _ _ _ n _=>n,fun b ob q _=>⟨ob,k b ob q⟩,fun _ _ q=>q,fun _ _ _ q=>q,fun _ _ _ _ q=>q⟩
theorem Un.refl:Un fs ex H H h h:=Un.kept fun _ _ q=>q
theorem Un.laid(k:∀b u,h.get? b=some u->h'.get? b=some u)(hp:h.objs.size<=a)(hn:H a=none):Un fs ex H (upd H a o) h h' where
 keep:=fun b u q _ _ _=>k b u q
 slot:=fun b u q _ _ _=>⟨u.slots,k b u q⟩
 free:=fun b u q n _=>by rw[aj (Tu (Tw (Tn q) hp))];exact n
 there:=fun b u q _=>⟨u,k b u q⟩
 tups:=fun b xs q=>by rw[aj (az q hn)];exact q
 lQ:=fun b u xs q=>by rw[aj (az q hn)];exact q
 jy:=fun b _ _ _ q=>by rw[aj (az q hn)];exact q
theorem Un.write(mu:Mut (H x))(he:e=x\/H e=some (.own x))(k:∀b u,b≠e->h.get? b=some u->h'.get? b=some u)(heo:∃u,h'.get? e=some u):Un fs ex H (upd H x o) h h':=by
 have hx:∀b,H b=none->b≠x:=fun b n z=>by subst z;rw[n]at mu;exact mu
 have hb:∀b,H b=none->b≠e:=fun b n z=>by
  subst z;rcases he with r | r
  ·exact hx b n r
  ·rw[n]at r;cases r
 have hm:∀b u,H b=some u->¬Mut (some u)->b≠x:=fun b u q nm z=>by subst z;rw[q]at mu;exact nm mu
 refine ⟨fun b u q n _ _=>k b u (hb b n) q,fun b u q n _ _=>⟨u.slots,k b u (hb b n) q⟩,fun b u q n _=>by rw [aj (hx b n)];exact n,fun b u q _=>?_,
  fun b xs q=>by rw[aj (hm b _ q fun z=>z)];exact q,fun b u xs q=>by rw[aj (hm b _ q fun z=>z)];exact q,fun b _ _ _ q=>by rw[aj (hm b _ q fun z=>z)];exact q⟩
 by_cases hbe:b=e
 ·subst hbe;exact heo
 ·exact⟨u,k b u hbe q⟩
end
section
variable{b:Addr}{h:Heap}{o:Obj}{H:Hp}
noncomputable def trk(h:Heap)(H:Hp):List Addr:=(TV h.objs.size).filter fun a=>(H a).isSome
noncomputable def pS(h:Heap)(H:Hp):Heap:=WS h (trk h H)
theorem zV(h:Heap)(H:Hp):(pS h H).objs.size=h.objs.size:=PySem.W.hideAll_size _ _
theorem Bj(e:h.get? b=some o)(n:H b=none):(pS h H).get? b=some o:=
 PySem.W.hideAll_get _ e fun hm=>by have q:(H b).isSome=true:=(UJ.mp hm).2;rw[n]at q;simp at q
theorem FL(e:(pS h H).get? b=some o):h.get? b=some o/\H b=none:=by
 have e':h.get? b=some o:=PySem.W.of_hideAll (trk h H) e;refine⟨e',?_⟩;cases q:H b with
 |none=>rfl
 |some x=>have hm:b∈trk h H:=UJ.mpr ⟨VQ.mpr (Tn e'),by simp[q]⟩;have z:(pS h H).get? b=none:=PySem.W.hideAll_none (trk h H) hm;rw[z]at e;cases e
structure Mod(K:eg)(mg:Str->Option Value)(base:Heap):Prop where
 kin:K.In base
 glob:base.Ns mainGlobals mg
 blt:∃mb,base.Ns builtinsNs mb/\∀x:Str,x ≠ "__name__" -> mb x=bootBuiltins x
 nolimit:base.NoLimit
structure Cx where
 prog:Program
 w:World
 K:eg
 mg:Str->Option Value
 base:Heap
 A:Around
 N:List Str
 s₀:Shared
 H₀:Hp
 env:Env
 outer:List Env
 stack:List Env
 ex:List Addr
 fn:Str->Bool
 calm:Bool
 pn:List (Addr×Obj)
 xe:Value->Shared->Prop
noncomputable def frs(l:List Env):List Addr:=l.filterMap (·.frame)
noncomputable abbrev Cx.fs(X:Cx):List Addr:=frs X.outer
def Vis(sc:Scope)(x:Str):Prop:=sc.names.lookup x=some .local\/sc.names.lookup x=some .cell\/sc.names.lookup x=some .free
def Loc(sc:Scope)(x:Str):Prop:=sc.names.lookup x=some .local\/sc.names.lookup x=some .cell
def Look(env:Env)(h:Heap)(m:Str->Option Value)(x:Str)(u:Value):Prop:=
 (env.kindOf x=some .local/\m x=some u)\/((env.kindOf x=some .cell\/env.kindOf x=some .free)/\∃c,env.cells.lookup x=some c/\h.IsCell c (some u))
structure Cx.Ok(X:Cx):Prop where
 mod:Mod X.K X.mg X.base
 kind:X.env.scope.kind=.function
 glob:X.env.globals=mainGlobals
 blt:X.env.builtins=builtinsNs
 above:X.s₀.heap.objs.size<=X.env.locals
 inj:∀x y c,X.env.cells.lookup x=some c->X.env.cells.lookup y=some c->x=y
 has:∀x,(X.env.kindOf x=some .cell\/X.env.kindOf x=some .free)->∃c,X.env.cells.lookup x=some c
 cab:∀x c,X.fn x=true->X.env.cells.lookup x=some c->X.s₀.heap.objs.size<=c
 hd:X.calm=true->X.A.handled=none
 frames:X.A.frames=some X.stack
 stk:X.stack=X.outer\/(X.stack=X.env::X.outer/\X.env.frame=some X.env.locals)
 exf:∀b∈X.ex,b≠X.env.locals/\∀x c,X.env.cells.lookup x=some c->c≠b
 bs:∀b o,X.base.get? b=some o->X.s₀.heap.get? b=some o/\X.H₀ b=none
 bsz:X.base.objs.size<=X.s₀.heap.objs.size
 Bk:∀b o,X.base.get? b=some o->b∉X.ex
 FO:∀b∈X.ex,b∉X.fs
 ko:X.s₀.heap.FunFrames X.base X.outer
 frf:∀b∈X.fs,X.H₀ b=none
structure Inv(X:Cx)(uV:List (Addr×Obj))(σ:List (Option V))(H:Hp)(s:Shared):Prop where
 ok:X.Ok
 os:s.os=X.s₀.os
 bare:AllBare s.gens
 base:Un X.fs X.ex X.H₀ H X.s₀.heap s.heap
 loc:∃m,s.heap.Ns X.env.locals m/\∀(i:Nat) (x:Str) (v:V),X.N[i]?=some x->σ[i]?=some (some v)->Vis X.env.scope x->∃u,RelV v u/\Look X.env s.heap m x u
 cell:∀x c,X.env.cells.lookup x=some c->∃v,s.heap.IsCell c v
 free:H X.env.locals=none
 cW:∀x c,X.env.cells.lookup x=some c->H c=none
 pin:∀p∈X.pn++uV,s.heap.get? p.1=some p.2/\H p.1=none/\p.1≠X.env.locals/\p.1∉X.fs/\∀v,p.2.data≠.cell v
 hok:HOk X.prog X.w H s.heap
 len:σ.length=X.N.length
end
section
variable{X:Cx}{uV:List (Addr×Obj)}{σ:List (Option V)}{H H':Hp}{s:Shared}{h':Heap}
section
variable{ch:List Addr}{x:Str}{u:Value}{a:Addr}{t':Nat}{i:Nat}{v:V}
theorem Cx.Ok.RN(ok:X.Ok){b:Addr}{o:Obj}(e:X.base.get? b=some o):b∉X.fs:=fun hb=>by have:=(ok.ko.mem hb).1;rw[e]at this;cases this
theorem Inv.bs(I:Inv X uV σ H s):∀b o,X.base.get? b=some o->s.heap.get? b=some o/\H b=none:=fun b o e=>⟨I.base.keep b o (I.ok.bs b o e).1 (I.ok.bs b o e).2 (I.ok.RN e) (I.ok.Bk b o e),I.base.free b o (I.ok.bs b o e).1 (I.ok.bs b o e).2 (I.ok.Bk b o e)⟩
theorem Inv.bk(I:Inv X uV σ H s):∀b o,X.base.get? b=some o->s.heap.get? b=some o:=fun b o e=>(I.bs b o e).1
theorem Inv.mod(I:Inv X uV σ H s):Mod X.K X.mg X.base:=I.ok.mod
theorem Inv.kIn(I:Inv X uV σ H s):X.K.In s.heap:=I.ok.mod.kin.keeps I.bk
theorem Inv.lt(I:Inv X uV σ H s):X.env.locals<s.heap.objs.size:=let ⟨_,hn,_⟩:=I.loc;hn.lt
theorem Inv.sz(I:Inv X uV σ H s):X.s₀.heap.objs.size<=s.heap.objs.size:=Nat.le_trans I.ok.above (VM I.lt)
theorem Inv.Ks(I:Inv X uV σ H s)(h:s.heap.objs.size<=a):a∉X.fs:=fun hb=>by obtain⟨_,o,ho,_⟩:=I.ok.ko.mem hb;exact absurd (Tw (Tn ho) (Nat.le_trans I.sz h)) (Uu _)
theorem Inv.cne(I:Inv X uV σ H s):∀x c,X.env.cells.lookup x=some c->c≠X.env.locals:=fun x c e z=>by obtain⟨v,o,ho,hd⟩:=I.cell x c e;obtain⟨m,⟨o',es,ep,ho',hd',_⟩,_⟩:=I.loc;rw[z,ho']at ho;cases ho;rw[hd']at hd;cases hd
theorem Inv.ko(I:Inv X uV σ H s):s.heap.FunFrames X.base X.outer:=by
 have all:∀(l:List Env),(∀b∈frs l,b∈X.fs)->X.s₀.heap.FunFrames X.base l->s.heap.FunFrames X.base l:=by
  intro l
  induction l with
  |nil=>intro _ _;trivial
  |cons env r ih=>intro hs hl;obtain⟨hk,⟨L,o,hf,hn,ho,hd⟩,hr⟩:=hl;have hL:L∈X.fs:=hs L (by unfold frs;rw[Wg,hf];exact To);obtain⟨sl,e⟩:=I.base.slot L o ho (I.ok.frf L hL) hL fun z=>I.ok.FO L z hL;exact⟨hk,⟨L,_,hf,hn,e,hd⟩,ih (fun b hb=>hs b (by unfold frs;rw[Wg,hf];exact Tq _ hb)) hr⟩
 exact all X.outer (fun _ hb=>hb) I.ok.ko
theorem Inv.stack(I:Inv X uV σ H s):s.heap.FunFrames X.base X.stack:=by
 rcases I.ok.stk with e | ⟨e,hf⟩
 ·rw[e];exact I.ko
 ·rw[e];obtain⟨m,hn,_⟩:=I.loc;refine .cons (by rw[I.ok.kind];decide) hf hn ?_ I.ko;exact V9 (Nat.le_trans I.ok.bsz I.ok.above)
theorem Inv.kr(I:Inv X uV σ H s):∀b∈frs X.stack,b∈X.env.locals::X.fs:=fun b hb=>by
 rcases I.ok.stk with e | ⟨e,hf⟩
 ·rw[e]at hb;exact Tq _ hb
 ·rw[e]at hb;unfold frs at hb;rw[Wg,hf]at hb;exact hb
theorem Inv.rq(I:Inv X uV σ H s):∀b∈frs X.stack,H b=none:=fun b hb=>by
 rcases Tp.mp (I.kr b hb) with e | hb
 ·rw[e];exact I.free
 ·obtain⟨_,o,ho,_⟩:=I.ok.ko.mem hb;exact I.base.free b o ho (I.ok.frf b hb) fun z=>I.ok.FO b z hb
theorem Inv.step{g':Array GenState}{t':Nat}{d':Drawn}{ch:List Addr}(I:Inv X uV σ H s)
  (hch:∀b∈ch,(b∈X.ex\/X.s₀.heap.objs.size<=b)/\b≠X.env.locals/\(∀x c,X.env.cells.lookup x=some c->c≠b)/\∀p∈X.pn++uV,p.1≠b)
  (keep:∀b o,b≠X.env.locals->b∉X.fs->b∉ch->s.heap.get? b=some o->H b=none->h'.get? b=some o)
  (slot:∀b o,b≠X.env.locals->b∈X.fs->b∉ch->s.heap.get? b=some o->H b=none->∃sl,h'.get? b=some { o with slots:=sl }) (free:∀b o,b∉ch->s.heap.get? b=some o->H b=none->H' b=none)
  (there:∀b o,b∉ch->s.heap.get? b=some o->∃o',h'.get? b=some o')
  (tups:∀b xs,H b=some (.tup xs)->H' b=some (.tup xs)) (lQ:∀b o u,H b=some (.frz o u)->H' b=some (.frz o u)) (jy:∀b x y z,H b=some (.tbl x y z)->H' b=some (.tbl x y z))
  (ns:∀m,s.heap.Ns X.env.locals m->h'.Ns X.env.locals m) (hok:HOk X.prog X.w H' h') (hg:AllBare g') :
  Inv X uV σ H' { s with heap:=h',gens:=g',drawn:=d',toks:=t' }:=by
 have neL:∀b o,X.s₀.heap.get? b=some o->b≠X.env.locals:=fun b o e=>Tu (Tw (Tn e) I.ok.above);have neC:∀b o,X.s₀.heap.get? b=some o->b∉X.ex->b∉ch:=fun b o e hx hb=>by
  rcases (hch b hb).1 with z | z
  ·exact hx z
  ·exact absurd (Tw (Tn e) z) (Uu _)
 have cellK:∀x c,X.env.cells.lookup x=some c->∀v,s.heap.IsCell c v->h'.IsCell c v:=fun x c e v ⟨o,ho,hd⟩=>by
  have nch:c∉ch:=fun z=>(hch c z).2.2.1 x c e rfl;by_cases hc:c∈X.fs
  ·obtain⟨sl,q⟩:=slot c o (I.cne x c e) hc nch ho (I.cW x c e);exact⟨_,q,hd⟩
  ·exact⟨o,keep c o (I.cne x c e) hc nch ho (I.cW x c e),hd⟩
 refine⟨I.ok,I.os,hg,⟨fun b o e n hb hx=>?_,fun b o e n hb hx=>?_,fun b o e n hx=>?_,fun b o e hx=>?_,fun b xs e=>tups b xs (I.base.tups b xs e),fun b o xs e=>lQ b o xs (I.base.lQ b o xs e),fun b x y z e=>?_⟩,?_,fun x c e=>?_,?_,fun x c e=>?_,fun p hp=>?_,hok,I.len⟩
 ·exact keep b o (neL b o e) hb (neC b o e hx) (I.base.keep b o e n hb hx) (I.base.free b o e n hx)
 ·obtain⟨sl,e1⟩:=I.base.slot b o e n hb hx;obtain⟨sl',e2⟩:=slot b _ (neL b o e) hb (neC b o e hx) e1 (I.base.free b o e n hx);exact⟨sl',e2⟩
 ·obtain⟨o',e1⟩:=I.base.there b o e hx;exact free b o' (neC b o e hx) e1 (I.base.free b o e n hx)
 ·obtain⟨o',e1⟩:=I.base.there b o e hx;exact there b o' (neC b o e hx) e1
 ·exact jy _ _ _ _ (I.base.jy _ _ _ _ e)
 ·obtain⟨m,hn,hl⟩:=I.loc;refine⟨m,ns m hn,fun i x v e1 e2 e3=>?_⟩;obtain⟨u,r,l⟩:=hl i x v e1 e2 e3;refine⟨u,r,?_⟩;rcases l with l | ⟨k,c,e,z⟩
  ·exact .inl l
  ·exact .inr ⟨k,c,e,cellK x c e _ z⟩
 ·obtain⟨v,z⟩:=I.cell x c e;exact⟨v,cellK x c e v z⟩
 ·obtain⟨m,⟨o,_,_,ho,_⟩,_⟩:=I.loc;exact free _ o (fun z=>(hch _ z).2.1 rfl) ho I.free
 ·obtain⟨v,o,ho,hd⟩:=I.cell x c e;exact free c o (fun z=>(hch c z).2.2.1 x c e rfl) ho (I.cW x c e)
 ·obtain⟨e,n,ne,nf,d⟩:=I.pin p hp;have nch:p.1∉ch:=fun z=>(hch p.1 z).2.2.2 p hp rfl;exact⟨keep p.1 p.2 ne nf nch e n,free p.1 p.2 nch e n,ne,nf,d⟩
theorem Inv.un(I:Inv X uV σ H s)(u:Un X.fs [] H H' s.heap h')(hok:HOk X.prog X.w H' h'):Inv X uV σ H' { s with heap:=h',toks:=t' }:=by
 obtain⟨m,⟨o,es,ep,ho,r⟩,_⟩:=id I.loc;obtain⟨sl,hL⟩:=u.any ho I.free (by simp);exact I.step (g':=s.gens) (d':=s.drawn) (ch:=[]) (fun _ z=>nomatch z) (fun b o _ hb _ e n=>u.keep b o e n hb (by simp)) (fun b o _ hb _ e n=>u.slot b o e n hb (by simp)) (fun b o _ e n=>u.free b o e n (by simp)) (fun b o _ e=>u.there b o e (by simp)) u.tups u.lQ u.jy (fun m' hm=>by obtain⟨o',es',ep',ho',r'⟩:=hm;rw[ho]at ho';cases ho';exact⟨_,es',ep',hL,r'⟩) hok I.bare
theorem Inv.call{g':Array GenState}{t':Nat}{d':Drawn}(I:Inv X uV σ H s)(u:Un (frs X.stack) ch H H' s.heap h')(hok:HOk X.prog X.w H' h')(hg:AllBare g')
  (hch:∀b∈ch,(b∈X.ex\/X.s₀.heap.objs.size<=b)/\b≠X.env.locals/\(∀x c,X.env.cells.lookup x=some c->c≠b)/\∀p∈X.pn++uV,p.1≠b) :
  Inv X uV σ H' { s with heap:=h',gens:=g',drawn:=d',toks:=t' }:=by
 obtain⟨m,⟨o,es,ep,ho,r⟩,_⟩:=id I.loc;obtain⟨sl,hL⟩:=u.any ho I.free fun z=>(hch _ z).2.1 rfl;exact I.step (ch:=ch) hch (fun b o hL hb hc e n=>u.keep b o e n (fun z=>(Tp.mp (I.kr b z)).elim hL hb) hc) (fun b o _ _ hc e n=>u.any e n hc) (fun b o hc e n=>u.free b o e n hc) (fun b o hc e=>u.there b o e hc) u.tups u.lQ u.jy (fun m' hm=>by obtain⟨o',es',ep',ho',r'⟩:=hm;rw[ho]at ho';cases ho';exact⟨_,es',ep',hL,r'⟩) hok hg
theorem Inv.turned{t':Nat}{it:Addr}(I:Inv X uV σ H s)(k:∀b o,b≠it->s.heap.get? b=some o->h'.get? b=some o)(hn:H it=none)(hL:it≠X.env.locals)
  (h1:it∈X.ex\/X.s₀.heap.objs.size<=it) (h2:∀x c,X.env.cells.lookup x=some c->c≠it) (h3:∀p∈X.pn++uV,p.1≠it):Inv X uV σ H { s with heap:=h',toks:=t' }:=by
 have nit:∀b u,H b=some u->b≠it:=fun b u e z=>by rw[z,hn]at e;cases e
 refine I.step (g':=s.gens) (d':=s.drawn) (ch:=[it]) (fun b hb=>?_) (fun b o _ _ hc e _=>k b o (fun z=>hc (by simp[z])) e) (fun b o _ _ hc e _=>⟨o.slots,k b o (fun z=>hc (by simp[z])) e⟩) (fun _ _ _ _ n=>n)
  (fun b o hc e=>⟨o,k b o (fun z=>hc (by simp[z])) e⟩) (fun _ _ e=>e) (fun _ _ _ e=>e) (fun _ _ _ _ e=>e) (fun m hm=>?_) (fun b u e=>?_) I.bare
 ·have e:b=it:=by simpa using hb
  subst e;exact⟨h1,hL,h2,h3⟩
 ·obtain⟨o,es,ep,ho,r⟩:=hm;exact⟨o,es,ep,k _ o (Ue hL) ho,r⟩
 ·refine(I.hok b u e).stay (fun c v hc q=>k c v ?_ q) (fun _ q=>q) (fun _ _ _ q=>q) fun _ _ q=>q;rcases hc with z | z
  ·rw[z];exact nit b u e
  ·exact nit c _ z
theorem Inv.tok(I:Inv X uV σ H s)(t:Nat):Inv X uV σ H { s with toks:=t }:=I.un (h':=s.heap) (t':=t) Un.refl I.hok
theorem Inv.kept(I:Inv X uV σ H s)(k:∀b u,s.heap.get? b=some u->h'.get? b=some u):Inv X uV σ H { s with heap:=h',toks:=t' }:=I.un (Un.kept k) (I.hok.kept k)
theorem Inv.laid{o:HO}{t':Nat}(I:Inv X uV σ H s)(k:∀b u,s.heap.get? b=some u->h'.get? b=some u)(hp:s.heap.objs.size<=a)(new:aR X.prog X.w (upd H a o) h' a o) :
  Inv X uV σ (upd H a o) { s with heap:=h',toks:=t' }:=I.un (Un.laid k hp (I.hok.fresh hp)) (I.hok.laid k hp new)
theorem Inv.write{x e:Addr}{o:HO}{t':Nat}(I:Inv X uV σ H s)(mu:Mut (H x))(he:e=x\/H e=some (.own x))(k:∀b u,b≠e->s.heap.get? b=some u->h'.get? b=some u)(heo:∃u,h'.get? e=some u)
  (new:aR X.prog X.w (upd H x o) h' x o):Inv X uV σ (upd H x o) { s with heap:=h',toks:=t' }:=I.un (Un.write mu he k heo) (I.hok.write mu he k heo new)
theorem Inv.lW{IC:List (Addr×Obj)}(I:Inv X uV σ H s)(h:∀p∈IC,s.heap.get? p.1=some p.2/\H p.1=none/\p.1≠X.env.locals/\p.1∉X.fs/\∀v,p.2.data≠.cell v):Inv X IC σ H s:=
 ⟨I.ok,I.os,I.bare,I.base,I.loc,I.cell,I.free,I.cW,fun p hp=>(T9.mp hp).elim (fun z=>I.pin p (UQ _ z)) (h p),I.hok,I.len⟩
theorem mE{N:List Str}(hN:N.Nodup){i j:Nat}(a:N[i]?=some x)(b:N[j]?=some x):i=j:=by obtain⟨h1,e1⟩:=Tj.mp a;obtain⟨h2,e2⟩:=Tj.mp b;exact(List.getElem_inj hN).mp (e1.trans e2.symm)
theorem ku{M:Model}{A:Around}{E:Value->Shared->Prop}{Q:Unit->Shared->Prop}(I:Inv X uV σ H s)(hN:X.N.Nodup)(hi:X.N[i]?=some x)(hx:Loc X.env.scope x)(r:RelV v u)
  (h:∀s',Inv X uV (σ.set i (some v)) H s'->(∃a,VN a s.heap s'.heap/\(a=X.env.locals\/X.env.cells.lookup x=some a))->Q () s') (hf:X.fn x=true\/X.env.scope.names.lookup x=some .local:=by trivial):wpAny M A (storeName X.env x u) Q E s:=by
 obtain⟨m,hn,hl⟩:=id I.loc;have hcls:(X.env.scope.kind == .class||(X.env.scope.kind == .module&&X.env.locals != X.env.globals))=false:=by rw[I.ok.kind];rfl
 have hiσ:i<σ.length:=by rw[I.len];exact(Tj.mp hi).1
 have cne:=I.cne;have tracked:∀{a:Addr} {h':Heap},(∃o,s.heap.get? a=some o/\H a=none)->VN a s.heap h'->HOk X.prog X.w H h':=fun {a h'} ha hs b ob e=>by
  obtain⟨_,_,hfree⟩:=ha;refine(I.hok b ob e).stay (fun c w' hc q=>(hs.2 c ?_).trans q) (fun _ q=>q) (fun _ _ _ q=>q) fun _ _ q=>q;rintro rfl;rcases hc with rfl | hc
  ·rw[hfree]at e;cases e
  ·rw[hfree]at hc;cases hc
 rcases hx with hk | hk
 ·refine wpAny_storeName_local hk hn (fun h' hn' hs=>?_) hcls;obtain⟨oL,_,_,hoL,_⟩:=id hn;refine h _ ⟨I.ok,I.os,I.bare,⟨fun b o e n hb hx=>?_,fun b o e n hb hx=>?_,I.base.free,fun b o e hx=>?_,I.base.tups,I.base.lQ,I.base.jy⟩,⟨_,hn',fun j y v' e1 e2 e3=>?_⟩,fun y c e=>?_,I.free,I.cW,fun p hp=>?_,tracked ⟨oL,hoL,I.free⟩ hs,by simpa using I.len⟩ ⟨_,hs,.inl rfl⟩
  ·exact(hs.2 b (Tu (Tw (Tn e) I.ok.above))).trans (I.base.keep b o e n hb hx)
  ·obtain⟨sl,e1⟩:=I.base.slot b o e n hb hx;exact⟨sl,(hs.2 b (Tu (Tw (Tn e) I.ok.above))).trans e1⟩
  ·obtain⟨o',e1⟩:=I.base.there b o e hx;exact⟨o',(hs.2 b (Tu (Tw (Tn e) I.ok.above))).trans e1⟩
  ·by_cases hj:j=i
   ·subst hj;rw[hi]at e1;cases e1;rw[TR hiσ]at e2;cases e2;exact⟨u,r,.inl ⟨hk,by simp⟩⟩
   ·rw[gc (Ue hj)]at e2;obtain⟨u',r',q⟩:=hl j y v' e1 e2 e3;refine⟨u',r',?_⟩;rcases q with⟨k,e⟩ | ⟨k,c,e,z⟩
    ·refine .inl ⟨k,?_⟩;have:y≠x:=fun e=>hj (mE hN e1 (e▸hi));simp[this,e]
    ·exact .inr ⟨k,c,e,z.sameBut hs (cne y c e)⟩
  ·obtain⟨w',z⟩:=I.cell y c e;exact⟨w',z.sameBut hs (cne y c e)⟩
  ·obtain⟨e,n,ne,nf,d⟩:=I.pin p hp;exact⟨(hs.2 p.1 ne).trans e,n,ne,nf,d⟩
 ·have hfn:X.fn x=true:=by
   rcases hf with z | z
   ·exact z
   ·rw[z]at hk;cases hk
  obtain⟨c,hc⟩:=I.ok.has x (.inl hk);obtain⟨w',z⟩:=I.cell x c hc;refine wpAny_storeName_cell I.ok.kind hk hc z (fun h' hc' hs=>?_);obtain⟨oc,hoc,RO⟩:=id z;refine h { s with heap:=h' } ⟨I.ok,I.os,I.bare,⟨fun b o e n hb hx=>?_,fun b o e n hb hx=>?_,I.base.free,fun b o e hx=>?_,I.base.tups,I.base.lQ,I.base.jy⟩,⟨m,hn.sameBut hs (Ue (cne x c hc)),fun j y v' e1 e2 e3=>?_⟩,fun y c' e=>?_,I.free,I.cW,fun p hp=>?_,tracked ⟨oc,hoc,I.cW x c hc⟩ hs,by simpa using I.len⟩ ⟨c,hs,.inr hc⟩
  ·exact(hs.2 b (Tu (Tw (Tn e) (I.ok.cab x c hfn hc)))).trans (I.base.keep b o e n hb hx)
  ·obtain⟨sl,e1⟩:=I.base.slot b o e n hb hx;exact⟨sl,(hs.2 b (Tu (Tw (Tn e) (I.ok.cab x c hfn hc)))).trans e1⟩
  ·obtain⟨o',e1⟩:=I.base.there b o e hx;exact⟨o',(hs.2 b (Tu (Tw (Tn e) (I.ok.cab x c hfn hc)))).trans e1⟩
  ·by_cases hj:j=i
   ·subst hj;rw[hi]at e1;cases e1;rw[TR hiσ]at e2;cases e2;exact⟨u,r,.inr ⟨.inl hk,c,hc,hc'⟩⟩
   ·rw[gc (Ue hj)]at e2;obtain⟨u',r',q⟩:=hl j y v' e1 e2 e3;refine⟨u',r',?_⟩;rcases q with q | ⟨k,c',e,z'⟩
    ·exact .inl q
    ·refine .inr ⟨k,c',e,z'.sameBut hs ?_⟩;rintro rfl;exact hj (mE hN e1 (I.ok.inj _ _ _ e hc▸hi))
  ·by_cases hcc:c'=c
   ·subst hcc;exact⟨_,hc'⟩
   ·obtain⟨w2,z2⟩:=I.cell y c' e;exact⟨w2,z2.sameBut hs hcc⟩
  ·obtain⟨e,n,ne,nf,d⟩:=I.pin p hp;refine⟨(hs.2 p.1 ?_).trans e,n,ne,nf,d⟩;intro q;rw[q,hoc]at e;have q':oc=p.2:=Option.some.inj e;exact d w' (by rw[<- q'];exact RO)
theorem tN{M:Model}{A:Around}{E:Value->Shared->Prop}{Q:Unit->Shared->Prop}(I:Inv X uV σ H s)(hN:X.N.Nodup)(hi:X.N[i]?=some x)(hx:Loc X.env.scope x)(r:RelV v u)
  (h:∀s',Inv X uV (σ.set i (some v)) H s'->Q () s') (hf:X.fn x=true\/X.env.scope.names.lookup x=some .local:=by trivial):wpAny M A (storeName X.env x u) Q E s:=
 ku I hN hi hx r (fun s' I' _=>h s' I') hf
theorem Inv.Ol{s':Shared}(I:Inv X uV σ H s)(ho:s'.os=s.os)(u:Un (frs X.stack) ch H H' s.heap s'.heap)(hok:HOk X.prog X.w H' s'.heap)(hg:AllBare s'.gens)
  (hch:∀b∈ch,(b∈X.ex\/X.s₀.heap.objs.size<=b)/\b≠X.env.locals/\(∀x c,X.env.cells.lookup x=some c->c≠b)/\∀p∈X.pn++uV,p.1≠b):Inv X uV σ H' s':=by
 obtain⟨h',g',d',t',o'⟩:=s';have e:o'=s.os:=ho;subst e;exact I.call (g':=g') (t':=t') (d':=d') u hok hg hch
end
end
noncomputable abbrev XK:=Value->Option Addr->Hp->Prop
noncomputable abbrev St:=List (Option V)
noncomputable abbrev VK:=V->Hp->Prop
noncomputable abbrev TE:=St->Hp->VK->Prop
noncomputable abbrev TT:=St->Hp->(Bool->Hp->Prop)->Prop
noncomputable abbrev TA:=St->Hp->(List V->Hp->Prop)->Prop
structure Ends where
 nx:St->Hp->Prop
 rt:VK
 bk:St->Hp->Prop:=fun _ _=>False
 ct:St->Hp->Prop:=fun _ _=>False
noncomputable abbrev TS:=Ends->St->Hp->Prop
def EP(X:Cx)(uV:List (Addr×Obj))(σ:St)(Q:VK)(u:Value)(s':Shared):Prop:=∃v H',Inv X uV σ H' s'/\RelV v u/\Q v H'
def TP(X:Cx)(uV:List (Addr×Obj))(σ:St)(Q:Bool->Hp->Prop)(b:Bool)(s':Shared):Prop:=∃H',Inv X uV σ H' s'/\Q b H'
def AP(X:Cx)(uV:List (Addr×Obj))(σ:St)(Q:List V->Hp->Prop)(us:List Value)(s':Shared):Prop:=∃vs H',Inv X uV σ H' s'/\Vals vs us/\Q vs H'
def SP(X:Cx)(uV:List (Addr×Obj))(D:Ends)(f:Flow)(s':Shared):Prop:=
 match f with
 |.next=>∃σ' H',Inv X uV σ' H' s'/\D.nx σ' H'
 |.brk=>∃σ' H',Inv X uV σ' H' s'/\D.bk σ' H'
 |.cont=>∃σ' H',Inv X uV σ' H' s'/\D.ct σ' H'
 |.ret u=>∃v σ' H',Inv X uV σ' H' s'/\RelV v u/\D.rt v H'
def PE(X:Cx)(e:Expr)(t:TE):Prop:=
 ∀(uV:List (Addr×Obj)) (s:Shared) (σ:St) (H:Hp) (Q:VK),Inv X uV σ H s->t σ H Q->wpAny (model X.prog X.w) X.A (eval e X.env) (EP X uV σ Q) X.xe s
def PT(X:Cx)(e:Expr)(t:TT):Prop:=
 ∀(uV:List (Addr×Obj)) (s:Shared) (σ:St) (H:Hp) (Q:Bool->Hp->Prop),Inv X uV σ H s->t σ H Q->wpAny (model X.prog X.w) X.A (isTrue e X.env (eval e X.env)) (TP X uV σ Q) X.xe s
def PW(X:Cx)(e:Expr)(t:TT):Prop:=
 ∀(whole:Sem Value) (uV:List (Addr×Obj)) (s:Shared) (σ:St) (H:Hp) (Q:Bool->Hp->Prop),Inv X uV σ H s->t σ H Q->wpAny (model X.prog X.w) X.A (isTrue e X.env whole) (TP X uV σ Q) X.xe s
theorem PW.pt{X:Cx}{e:Expr}{t:TT}(h:PW X e t):PT X e t:=h _
def PA(X:Cx)(es:List Expr)(t:TA):Prop:=
 ∀(pos:Pos) (uV:List (Addr×Obj)) (s:Shared) (σ:St) (H:Hp) (Q:List V->Hp->Prop),Inv X uV σ H s->t σ H Q->wpAny (model X.prog X.w) X.A (spliced (backTo pos (starEach es X.env))) (AP X uV σ Q) X.xe s
def PS(X:Cx)(st:Stmt)(t:TS):Prop:=
 ∀(uV:List (Addr×Obj)) (s:Shared) (σ:St) (H:Hp) (D:Ends),Inv X uV σ H s->t D σ H->wpAny (model X.prog X.w) X.A (exec st X.env) (SP X uV D) X.xe s
def PSs(X:Cx)(st:List Stmt)(t:TS):Prop:=
 ∀(uV:List (Addr×Obj)) (s:Shared) (σ:St) (H:Hp) (D:Ends),Inv X uV σ H s->t D σ H->wpAny (model X.prog X.w) X.A (execs st X.env) (SP X uV D) X.xe s
theorem thn{α:Type}{t:Sem α}{Q Q':α->Shared->Prop}{M:Model}{A:Around}{E:Value->Shared->Prop}{s:Shared}(h:wpAny M A t Q E s)(hQ:∀a s,Q a s->Q' a s):wpAny M A t Q' E s:=wpAny_mono h hQ fun _ _ x=>x
section
variable{X:Cx}
section
variable{Q:Value->Shared->Prop}{uV:List (Addr×Obj)}{u:Value}{x:Str}{s:Shared}{t:TE}{H:Hp}{σ:St}{v:V}
def rA(i:Nat):TE:=fun σ H Q=>∃v,σ[i]?=some (some v)/\Q v H
def tC(v:V):TE:=fun _ H Q=>Q v H
theorem fN{i:Nat}{pos:Pos}(hN:X.N[i]?=some x)(hv:Vis X.env.scope x)(hd:(x == ("__debug__" : Str))=false:=by decide)(MZ:(x == ("__classdict__" : Str))=false:=by decide):PE X (.Name x pos) (rA i):=by
 intro uV s σ H Q I h;obtain⟨v,e,h⟩:=h;obtain⟨m,hn,hl⟩:=I.loc;obtain⟨u,r,l⟩:=hl i x v hN e hv;have HB:EP X uV σ Q u s:=⟨v,H,I,r,h⟩
 rcases l with⟨hk,hm⟩ | ⟨hk,c,hc,hcell⟩
 ·exact wpAny_Name (wpAny_loadName_local I.ok.kind hk hn hm HB) hd
 ·rcases hk with hk | hk
  ·exact wpAny_Name (wpAny_loadName_cell I.ok.kind hk hc hcell HB) hd
  ·exact wpAny_Name (wpAny_loadName_free I.ok.kind hk hc hcell HB MZ) hd
theorem Ku{i j pos}:PE X (.Constant (.int i) j pos) (tC (.int i)):=fun _ _ _ H _ I h=>wpAny_Constant_int ⟨.int i,H,I.tok _,⟨_,rfl⟩,h⟩
theorem Om{b j pos}:PE X (.Constant (.bool b) j pos) (tC (.bl b)):=fun _ _ _ H _ I h=>Constant_bool ⟨.bl b,H,I,rfl,h⟩
theorem Kv{j pos}:PE X (.Constant .none j pos) (tC .non):=fun _ _ _ H _ I h=>Constant_none ⟨.non,H,I,rfl,h⟩
theorem Kw{x j pos}:PE X (.Constant (.str x) j pos) (tC (.str x)):=fun _ _ _ H _ I h=>Calls.Constant_str ⟨.str x,H,I.tok _,⟨_,rfl⟩,h⟩
def Gl(X:Cx)(x:Str):Prop:=X.env.kindOf x=some .globalImplicit
theorem gv{E:Value->Shared->Prop}{pos:Pos}(I:Inv X uV σ H s)(hg:Gl X x)(hm:X.mg x=some u)(h:Q u s)
  (hd:(x == ("__debug__" : Str))=false:=by decide):wpAny (model X.prog X.w) X.A (eval (.Name x pos) X.env) Q E s:=
 Calls.Name_function_global I.ok.kind hg (Calls.loadGlobal_global (by rw[I.ok.glob];exact I.mod.glob.keeps I.bk) hm h) hd
theorem cN{E:Value->Shared->Prop}{pos:Pos}(I:Inv X uV σ H s)(hg:Gl X x)(hm:X.mg x=none)(hv:bootBuiltins x=some u)(h:Q u s)
  (hn:x ≠ "__name__" := by decide) (hd:(x == ("__debug__" : Str))=false:=by decide):wpAny (model X.prog X.w) X.A (eval (.Name x pos) X.env) Q E s:=by
 obtain⟨mb,h1,h2⟩:=I.mod.blt;exact Calls.Name_function_global I.ok.kind hg (Calls.loadGlobal_builtin (by rw[I.ok.glob];exact I.mod.glob.keeps I.bk) hm (by rw[I.ok.blt];exact h1.keeps I.bk) ((h2 x hn).trans hv) h) hd
theorem rB{pos:Pos}(hg:Gl X x)(hm:X.mg x=some u)(r:RelV v u)(hd:(x == ("__debug__" : Str))=false:=by decide):PE X (.Name x pos) (tC v):=
 fun _ _ _ H _ I h=>gv I hg hm ⟨v,H,I,r,h⟩ hd
theorem yl{pos:Pos}(hg:Gl X x)(hm:X.mg x=none)(hv:bootBuiltins x=some u)(r:RelV v u)(hn:x ≠ "__name__" := by decide)(hd:(x == ("__debug__" : Str))=false:=by decide):PE X (.Name x pos) (tC v):=
 fun _ _ _ H _ I h=>cN I hg hm hv ⟨v,H,I,r,h⟩ hn hd
variable{a b:Expr}{ta tb:TE}{pos:Pos}
def PC(X:Cx)(op:CmpOp)(a b:Expr)(t:TE):Prop:=
 ∀(uV:List (Addr×Obj)) (s:Shared) (σ:St) (H:Hp) (Q:VK),Inv X uV σ H s->t σ H Q ->
  wpAny (model X.prog X.w) X.A (eval a X.env) (fun v s₁=>wpAny (model X.prog X.w) X.A (eval b X.env) (fun u s₂=>wpAny (model X.prog X.w) X.A (compareOp op v u) (EP X uV σ Q) X.xe s₂) X.xe s₁) X.xe s
def tB(t:TE):TT:=fun σ H Q=>t σ H fun x H1=>∃c,x=.bl c/\Q c H1
theorem Bl{op:CmpOp}(h:PC X op a b t)(h1:behindInMarks op b=false:=by first | exact Oo _ (by decide) (by decide) | rfl):PT X (.Compare a [op] [b] pos) (tB t):=by intro uV s σ H Q I hw;refine wpAny_isTrue_Compare1 (thn (h uV s σ H _ I hw) fun v s1 h1=>thn h1 fun u s2 h2=>thn h2 fun c s3 ⟨x,H1,I1,r1,q1⟩=>?_) h1;obtain⟨d,rfl,q⟩:=q1;cases r1;exact wpAny_truthy_bool ⟨H1,I1,q⟩
theorem Ky{e:Expr}(h:PE X e t)(he:∀whole,isTrue e X.env whole=(do let v <- whole;standAt e.pos;holding [v] (truthy v)):=by intro _;rfl):PT X e (tB t):=by intro uV s σ H Q I hw;refine isTrue_plain (thn (h uV s σ H _ I hw) fun v s1 ⟨x,H1,I1,r1,q1⟩=>?_) (he _);obtain⟨d,rfl,q⟩:=q1;cases r1;exact wpAny_truthy_bool ⟨H1,I1,q⟩
variable{tA tB':TT}{Du:List Expr}
def wG(t u:TT):TT:=fun σ H Q=>t σ H fun c H1=>if c=true then u σ H1 Q else Q false H1
def tOr(t u:TT):TT:=fun σ H Q=>t σ H fun c H1=>if c=true then Q true H1 else u σ H1 Q
def eU(t:TT):TT:=fun σ H Q=>t σ H fun c H1=>Q (!c) H1
theorem pw_and1(ha:PT X a tA):PW X (.BoolOp .And [a] pos) tA:=by
 intro wh uV s σ H Q I h;refine isTrue_and (thn (ha uV s σ H Q I h) fun c s1 e=>?_);cases c with
 |true=>exact isTrue_and_nil e
 |false=>exact e
theorem pw_or1(ha:PT X a tA):PW X (.BoolOp .Or [a] pos) tA:=by
 intro wh uV s σ H Q I h;refine isTrue_or (thn (ha uV s σ H Q I h) fun c s1 e=>?_);cases c with
 |false=>exact isTrue_or_nil e
 |true=>exact e
theorem pw_and(ha:PT X a tA)(hb:PW X (.BoolOp .And (b::Du) pos) tB'):PW X (.BoolOp .And (a::b::Du) pos) (wG tA tB'):=by
 intro wh uV s σ H Q I h;refine isTrue_and (thn (ha uV s σ H _ I h) fun c s1 ⟨H1,I1,q1⟩=>?_);cases c with
 |true=>exact hb wh uV s1 σ H1 Q I1 q1
 |false=>exact⟨H1,I1,q1⟩
theorem pw_or(ha:PT X a tA)(hb:PW X (.BoolOp .Or (b::Du) pos) tB'):PW X (.BoolOp .Or (a::b::Du) pos) (tOr tA tB'):=by
 intro wh uV s σ H Q I h;refine isTrue_or (thn (ha uV s σ H _ I h) fun c s1 ⟨H1,I1,q1⟩=>?_);cases c with
 |true=>exact⟨H1,I1,q1⟩
 |false=>exact hb wh uV s1 σ H1 Q I1 q1
theorem Kz(ha:PT X a tA):PT X (.UnaryOp .Not a pos) (eU tA):=by intro uV s σ H Q I h;exact isTrue_not (ha uV s σ H (fun c H1=>Q (!c) H1) I h)
def ID(ta tb:TE):TE:=fun σ H Q=>ta σ H fun x H1=>∃c,x=.bl c/\if c=true then tb σ H1 Q else Q (.bl false) H1
def IE(ta:TE):TE:=fun σ H Q=>ta σ H fun x H1=>∃c,x=.bl c/\Q (.bl (!c)) H1
theorem KA{op}(h:PE X a t):PE X (.BoolOp op [a] pos) t:=fun uV s σ H Q I hw=>BoolOp_one (h uV s σ H Q I hw)
theorem KC(ha:PE X a ta)(hb:PE X (.BoolOp .And (b::Du) pos) tb):PE X (.BoolOp .And (a::b::Du) pos) (ID ta tb):=by
 intro uV s σ H Q I h;refine BoolOp_and (thn (ha uV s σ H _ I h) fun v s1 ⟨x,H1,I1,r1,q1⟩=>?_);obtain⟨c,rfl,q1⟩:=q1;cases r1;refine wpAny_truthy_bool ?_;cases c with
 |true=>exact hb uV s1 σ H1 Q I1 q1
 |false=>exact⟨.bl false,H1,I1,rfl,q1⟩
theorem KD(ha:PE X a ta):PE X (.UnaryOp .Not a pos) (IE ta):=by intro uV s σ H Q I h;refine UnaryOp_ (thn (ha uV s σ H _ I h) fun v s1 ⟨x,H1,I1,r1,q1⟩=>?_);obtain⟨c,rfl,q1⟩:=q1;cases r1;exact not_of (wpAny_truthy_bool ⟨.bl (!c),H1,I1,rfl,q1⟩)
def tIf(t:TT)(ta tb:TE):TE:=fun σ H Q=>t σ H fun c H1=>if c=true then ta σ H1 Q else tb σ H1 Q
theorem Bm{c:Expr}(hc:PT X c tA)(ha:PE X a ta)(hb:PE X b tb):PE X (.IfExp c a b pos) (tIf tA ta tb):=by
 intro uV s σ H Q I h;refine wpAny_IfExp (thn (hc uV s σ H _ I h) fun d s1 ⟨H1,I1,q1⟩=>?_);cases d with
 |true=>exact ha uV s1 σ H1 Q I1 q1
 |false=>exact hb uV s1 σ H1 Q I1 q1
end
end
def SqL(K:eg)(H:Hp)(a:Addr)(xs:List V):Prop:=
 Rd H a (.lst xs) \/
  ∃(o:Obj) (its:Array Value) (n:Nat),K.lookup a=some o/\o.cls=.type "list" /\ o.dict=none/\o.data=.seq its n/\its.size<=sizeLine/\Vals xs its.toList
def SqT(K:eg)(H:Hp)(a:Addr)(xs:List V):Prop:=
 Rd H a (.tup xs) \/
  ∃(o:Obj) (its:Array Value) (n:Nat),K.lookup a=some o/\o.cls=.type "tuple" /\ o.data=.seq its n/\its.size<=sizeLine/\Vals xs its.toList
noncomputable def RP:Value->Option V
 |.none=>some .non
 |.bool b=>some (.bl b)
 |.int i _=>some (.int i)
 |.str x _=>some (.str x)
 |.bytes b _=>some (.byt b)
 |.float b _=>some (.flt b)
 |.ref a=>some (.ref a)
 |.type n=>some (.ty n)
 |_=>none
theorem RelV.abs{x:V}{u:Value}(r:RelV x u):RP u=some x:=by
 cases x with
 |non=>cases r;rfl
 |bl _=>cases r;rfl
 |int _=>obtain⟨t,rfl⟩:=r;rfl
 |str _=>obtain⟨t,rfl⟩:=r;rfl
 |byt _=>obtain⟨t,rfl⟩:=r;rfl
 |flt _=>obtain⟨t,rfl⟩:=r;rfl
 |ref _=>cases r;rfl
 |ty _=>cases r;rfl
theorem RelV.inj{x y:V}{u:Value}(r:RelV x u)(q:RelV y u):x=y:=Option.some.inj (r.abs.symm.trans q.abs)
theorem Vals.inj:∀{xs ys:List V} {us:List Value},Vals xs us->Vals ys us->xs=ys
 |_,_,_,.nil,.nil=>rfl
 |_,_,_,.cons r t,.cons r' t'=>by rw[r.inj r',Vals.inj t t']
section
variable{X:Cx}{uV:List (Addr×Obj)}{σ:St}{H:Hp}{s:Shared}{a:Addr}{xs ys:List V}
theorem SqT.of{K:eg}(h:H a=some (.tup xs)):SqT K H a xs:=.inl (.inl h)
theorem Inv.list(I:Inv X uV σ H s)(h:SqL X.K H a xs):∃its:List Value,Vals xs its/\PlainL s.heap a its.toArray/\xs.length<=sizeLine:=by
 rcases h with h | ⟨o,its,n,hk,hc,hd,hs,hz,r⟩
 ·obtain⟨z,its,n,r,e⟩:=h.ok I.hok;exact⟨its,r,⟨_,n,e,rfl,rfl,rfl⟩,z⟩
 ·refine⟨its.toList,r,⟨o,n,I.kIn a o hk,hc,hd,by simpa using hs⟩,?_⟩;have e:=r.length;simp only[TH]at e
  lia
theorem Inv.tuple(I:Inv X uV σ H s)(h:SqT X.K H a xs):∃its:List Value,Vals xs its/\IsTup s.heap a its.toArray/\xs.length<=sizeLine:=by
 rcases h with h | ⟨o,its,n,hk,hc,hs,hz,r⟩
 ·obtain⟨z,its,r,p⟩:=h.ok I.hok;exact⟨its,r,p,z⟩
 ·refine⟨its.toList,r,⟨o,I.kIn a o hk,hc,n,by simpa using hs⟩,?_⟩;have e:=r.length;simp only[TH]at e
  lia
theorem Inv.fO(I:Inv X uV σ H s)(h:SqL X.K H a xs)(h':SqL X.K H a ys):xs=ys:=by
 obtain⟨its,r,⟨o,n,e,_,_,d⟩,_⟩:=I.list h;obtain⟨its',r',⟨o',n',e',_,_,d'⟩,_⟩:=I.list h';rw[e]at e';cases e';rw[d]at d';injection d' with d1 _
 have:its=its':=by simpa using congrArg Array.toList d1
 subst this;exact r.inj r'
theorem Inv.zW(I:Inv X uV σ H s)(h:SqT X.K H a xs)(h':SqT X.K H a ys):xs=ys:=by
 obtain⟨its,r,⟨o,e,_,n,d⟩,_⟩:=I.tuple h;obtain⟨its',r',⟨o',e',_,n',d'⟩,_⟩:=I.tuple h';rw[e]at e';cases e';rw[d]at d';injection d' with d1 _
 have:its=its':=by simpa using congrArg Array.toList d1
 subst this;exact r.inj r'
end
noncomputable abbrev Cx.mF(X:Cx)(E:Value->Shared->Prop):Cx:={ X with xe:=E }
noncomputable abbrev Cx.nox(X:Cx):Cx:=X.mF fun _ _=>False
theorem Cx.Ok.mF{X:Cx}(ok:X.Ok)(E:Value->Shared->Prop):(X.mF E).Ok:=
 ⟨ok.mod,ok.kind,ok.glob,ok.blt,ok.above,ok.inj,ok.has,ok.cab,ok.hd,ok.frames,ok.stk,ok.exf,ok.bs,ok.bsz,ok.Bk,ok.FO,ok.ko,ok.frf⟩
theorem Cx.Ok.eW{X:Cx}{E:Value->Shared->Prop}(ok:(X.mF E).Ok):X.Ok:=
 ⟨ok.mod,ok.kind,ok.glob,ok.blt,ok.above,ok.inj,ok.has,ok.cab,ok.hd,ok.frames,ok.stk,ok.exf,ok.bs,ok.bsz,ok.Bk,ok.FO,ok.ko,ok.frf⟩
section
variable{X:Cx}{uV:List (Addr×Obj)}{σ:St}{H:Hp}{s:Shared}{E:Value->Shared->Prop}
theorem Inv.mF(I:Inv X uV σ H s)(E:Value->Shared->Prop):Inv (X.mF E) uV σ H s:=⟨I.ok.mF E,I.os,I.bare,I.base,I.loc,I.cell,I.free,I.cW,I.pin,I.hok,I.len⟩
theorem Inv.eW(I:Inv (X.mF E) uV σ H s):Inv X uV σ H s:=⟨I.ok.eW,I.os,I.bare,I.base,I.loc,I.cell,I.free,I.cW,I.pin,I.hok,I.len⟩
theorem SP.eW{D:Ends}{f:Flow}{s':Shared}(h:SP (X.mF E) uV D f s'):SP X uV D f s':=by
 cases f with
 |next=>obtain⟨σ',H',I,q⟩:=h;exact⟨σ',H',I.eW,q⟩
 |brk=>obtain⟨σ',H',I,q⟩:=h;exact⟨σ',H',I.eW,q⟩
 |cont=>obtain⟨σ',H',I,q⟩:=h;exact⟨σ',H',I.eW,q⟩
 |ret u=>obtain⟨v,σ',H',I,r,q⟩:=h;exact⟨v,σ',H',I.eW,r,q⟩
theorem PE.nox{e:Expr}{t:TE}(h:PE X.nox e t):PE X e t:=fun uV s σ H Q I hw=>wpAny_mono (h uV s σ H Q (I.mF _) hw) (fun _ _ ⟨v,H',I',r,q⟩=>⟨v,H',I'.eW,r,q⟩) fun _ _ z=>TF z
theorem PSs.nox{st:List Stmt}{t:TS}(h:PSs X.nox st t):PSs X st t:=fun uV s σ H D I hw=>wpAny_mono (h uV s σ H D (I.mF _) hw) (fun _ _ q=>q.eW) fun _ _ z=>TF z
end
section
variable{X:Cx}{st:Stmt}{Du:List Stmt}{t u:TS}{e:Expr}{te:TE}{pos:Pos}
def Bo:TS:=fun D σ H=>D.nx σ H
def zX(t u:TS):TS:=fun D σ H=>t { D with nx:=u D } σ H
theorem ym:PSs X [] Bo:=fun _ _ σ H _ I h=>wpAny_execs_nil ⟨σ,H,I,h⟩
theorem jz(h1:PS X st t)(h2:PSs X Du u):PSs X (st::Du) (zX t u):=by
 intro uV s σ H D I h;refine wpAny_execs_cons (thn (h1 uV s σ H { D with nx:=u D } I h) fun f s1 q=>?_);cases f with
 |next=>obtain⟨σ',H',I',q⟩:=q;exact h2 uV s1 σ' H' D I' q
 |ret v=>exact q
 |brk=>exact q
 |cont=>exact q
theorem yo(h1:PS X st t):PSs X [st] t:=by
 intro uV s σ H D I h;refine wpAny_execs_cons (thn (h1 uV s σ H D I h) fun f s1 q=>?_);cases f with
 |next=>exact wpAny_execs_nil q
 |ret v=>exact q
 |brk=>exact q
 |cont=>exact q
theorem Inv.quiet{uV:List (Addr×Obj)}{σ:St}{H:Hp}{s:Shared}(I:Inv X uV σ H s):interactive X.env=false:=by simp[interactive,I.ok.kind]
def tO(te:TE):TS:=fun D σ H=>te σ H fun _ H1=>D.nx σ H1
theorem jA(he:PE X e te)(hs:swapsWith e none pos.line X.env=pure false:=by rfl):PS X (.Expr e pos) (tO te):=by intro uV s σ H D I h;exact wpAny_Expr_any (thn (he uV s σ H _ I h) fun v s1 ⟨x,H1,I1,r1,q1⟩=>⟨σ,H1,I1,q1⟩) I.quiet hs
def Oq(te:TE):TS:=fun D σ H=>te σ H D.rt
theorem KG(he:PE X e te):PS X (.Return (some e) pos) (Oq te):=by intro uV s σ H D I h;exact wpAny_Return_some (thn (he uV s σ H _ I h) fun v s1 ⟨x,H1,I1,r1,q1⟩=>⟨x,σ,H1,I1,r1,q1⟩)
def KH(c:TT)(t u:TS):TS:=fun D σ H=>c σ H fun b H1=>if b=true then t D σ H1 else u D σ H1
theorem Bp{c:Expr}{a b:List Stmt}{tc:TT}(hc:PT X c tc)(ha:PSs X a t)(hb:PSs X b u):PS X (.If c a b pos) (KH tc t u):=by
 intro uV s σ H D I h;refine wpAny_If (thn (hc uV s σ H _ I h) fun d s1 ⟨H1,I1,q1⟩=>?_);cases d with
 |true=>exact ha uV s1 σ H1 D I1 q1
 |false=>exact hb uV s1 σ H1 D I1 q1
def KI:TS:=fun _ _ _=>False
theorem Bq:PS X st KI:=fun _ _ _ _ _ _ h=>h.elim
end
noncomputable abbrev TG:=V->St->Hp->(St->Hp->Prop)->Prop
noncomputable abbrev TGs:=List V->St->Hp->(St->Hp->Prop)->Prop
def PG(X:Cx)(target:Expr)(t:TG):Prop:=
 ∀(uV:List (Addr×Obj)) (s:Shared) (σ:St) (H:Hp) (v:V) (u:Value) (Q:St->Hp->Prop),Inv X uV σ H s->RelV v u->t v σ H Q ->
  wpAny (model X.prog X.w) X.A (assign target X.env u) (fun _ s'=>∃σ' H',Inv X uV σ' H' s'/\Q σ' H') X.xe s
def PGs(X:Cx)(ts:List Expr)(t:TGs):Prop:=
 ∀(uV:List (Addr×Obj)) (s:Shared) (σ:St) (H:Hp) (vs:List V) (us:List Value) (Q:St->Hp->Prop),Inv X uV σ H s->Vals vs us->t vs σ H Q ->
  wpAny (model X.prog X.w) X.A (assignInOrder ((assignEach ts X.env).map (·.2)) us) (fun _ s'=>∃σ' H',Inv X uV σ' H' s'/\Q σ' H') X.xe s
noncomputable abbrev KL:=V->V->V->Hp->(Hp->Prop)->Prop
def Ot(X:Cx)(t:KL):Prop:=
 ∀(uV:List (Addr×Obj)) (s:Shared) (σ:St) (H:Hp) (o i v:V) (ov iv u:Value) (Q:Hp->Prop),Inv X uV σ H s->RelV o ov->RelV i iv->RelV v u->t o i v H Q ->
  wpAny (model X.prog X.w) X.A (setItem ov iv u) (fun _ s'=>∃H',Inv X uV σ H' s'/\Q H') X.xe s
section
variable{X:Cx}{pos:Pos}
section
variable{es:List Expr}{e:Expr}{i:Nat}{x:Str}{te:TE}
def jB(i:Nat):TG:=fun v σ H Q=>Q (σ.set i (some v)) H
theorem rC(hN:X.N.Nodup)(hi:X.N[i]?=some x)(hx:Loc X.env.scope x)(hf:X.fn x=true\/X.env.scope.names.lookup x=some .local:=by trivial):PG X (.Name x pos) (jB i):=by intro uV s σ H v u Q I r h;exact wpAny_assign_Name (tN I hN hi hx r (fun s' I'=>⟨_,H,I',h⟩) hf)
def Ou:TGs:=fun vs σ H Q=>vs=[]/\Q σ H
def IF(t:TG)(u:TGs):TGs:=fun vs σ H Q=>∃v r,vs=v::r/\t v σ H fun σ' H'=>u r σ' H' Q
theorem FP:PGs X [] Ou:=by intro uV s σ H vs us Q I r h;obtain⟨e,h⟩:=h;subst e;cases r;exact assignInOrder_nil ⟨σ,H,I,h⟩
theorem Bs{t:TG}{u:TGs}(h1:PG X e t)(h2:PGs X es u)
  (hs:(assignEach (e::es) X.env).map (·.2)=assign e X.env::(assignEach es X.env).map (·.2):=by rfl):PGs X (e::es) (IF t u):=by
 intro uV s σ H vs us Q I r h;obtain⟨v,vr,e1,h⟩:=h;subst e1;cases r with
 |cons r rr=>rw[hs];refine assignInOrder_cons (thn (h1 uV s σ H _ _ _ I r h) fun _ s1 ⟨σ1,H1,I1,q1⟩=>?_);exact h2 uV s1 σ1 H1 _ _ Q I1 rr q1
def KN(K:eg)(n:Nat)(t:TGs):TG:=fun v σ H Q=>∃a xs,v=.ref a/\SqT K H a xs/\xs.length=n/\t xs σ H Q
theorem wH{k:Nat}{t:TGs}{n:Nat}(hc:X.calm=true)(h:PGs X es t)
  (hn:(assignEach es X.env).length=n:=by rfl) (hst:(assignEach es X.env).findIdx? (·.1)=none:=by rfl):PG X (.Tuple es k pos) (KN X.K n t):=by
 intro uV s σ H v u Q I r hw;obtain⟨a,xs,e1,hq,hl,hw⟩:=hw;subst e1;cases r;obtain⟨its,rv,ht,hz⟩:=I.tuple hq;refine assign_Tuple_tuple (I.ok.hd hc) ht (by simp[hn,<- hl,rv.length]) hst fun h' hx=>?_;have I1:Inv X uV σ H { s with heap:=h' }:=I.kept (t':=s.toks) fun b o e=>hx b o (Tu (Tn e)) e;exact h uV _ σ H xs _ Q I1 (by simpa using rv) hw
def jC(to ti:TE)(t:KL):TG:=fun v σ H Q=>to σ H fun o H1=>ti σ H1 fun i H2=>t o i v H2 fun H3=>Q σ H3
theorem KP{o i:Expr}{to ti:TE}{t:KL}(ho:PE X o to)(hi:PE X i ti)(hs:Ot X t)
  (ha:∀ v,assign (.Subscript o i pos) X.env v=(do
   let ov <- holding [v] (eval o X.env)
   let iv <- holding [v,ov] (eval i X.env)
   standAt pos
   holding [v,ov,iv] (setItem ov iv v)
   release [v,ov,iv] []):=by intro _;rfl):PG X (.Subscript o i pos) (jC to ti t):=by
 intro uV s σ H v u Q I r h;rw[ha];refine wpAny_bind (wpAny_holding (thn (ho uV s σ H _ I h) fun ov s1 ⟨x,H1,I1,r1,q1⟩=>?_));refine wpAny_bind (wpAny_holding (thn (hi uV s1 σ H1 _ I1 q1) fun iv s2 ⟨y,H2,I2,r2,q2⟩=>?_));refine wpAny_bind (wpAny_standAt (wpAny_bind (wpAny_holding (thn (hs uV s2 σ H2 x y v ov iv u _ I2 r1 r2 r q2) fun _ s3 ⟨H3,I3,q3⟩=>?_))));exact wpAny_release ⟨σ,H3,I3,q3⟩
def wI(te:TE)(g:TG):TS:=fun D σ H=>te σ H fun x H1=>g x σ H1 D.nx
theorem Bt{tg e:Expr}{g:TG}(he:PE X e te)(hg:PG X tg g)(hs:swapsWithSole [tg] e pos.line X.env=pure false:=by rfl)(hw:swappedStores [tg] e X.env=pure none:=by rfl)
  (h1:(assignEach [tg] X.env).map (·.2)=[assign tg X.env]:=by rfl):PS X (.Assign [tg] e pos) (wI te g):=by
 intro uV s σ H D I h;refine wpAny_Assign_stores (thn (he uV s σ H _ I h) fun v s1 ⟨x,H1,I1,r1,q1⟩=>?_) hs hw;rw[h1];exact thn (hg uV s1 σ H1 x v _ I1 r1 q1) fun _ s2 q=>q
theorem Bu{pos':Pos}(hN:X.N.Nodup)(hi:X.N[i]?=some x)(hx:Loc X.env.scope x)(he:PE X e te)(hs:swapsWith e (some (.Name x pos')) pos.line X.env=pure false:=by rfl)(hf:X.fn x=true\/X.env.scope.names.lookup x=some .local:=by trivial) :
  PS X (.Assign [.Name x pos'] e pos) (wI te (jB i)):=by
 intro uV s σ H D I h;refine wpAny_Assign_Name (thn (he uV s σ H _ I h) fun v s1 ⟨y,H1,I1,r1,q1⟩=>?_) hs;exact tN I1 hN hi hx r1 (fun s2 I2=>⟨_,H1,I2,q1⟩) hf
end
end
section
variable{X:Cx}{pos:Pos}
def Bv(c:TT)(tb:TS):TS:=fun D σ H=>∃W:Nat->St->Hp->Prop,(∃m,W m σ H)/\∀m σ H,W m σ H ->
 c σ H fun b H1=>if b=true then ∃N:St->Hp->Prop,(∀σ' H',N σ' H'->∃m',m'<m/\W m' σ' H')/\tb { D with nx:=N,ct:=N,bk:=D.nx } σ H1 else D.nx σ H1
theorem Bw{c:Expr}{body:List Stmt}{tc:TT}{tb:TS}(hp:PassesOwn (model X.prog X.w) X.A X.env X.xe)(hc:PT X c tc)(hb:PSs X body tb):PS X (.While c body [] pos) (Bv tc tb):=by
 intro uV s σ H D I h;obtain⟨W,⟨m0,w0⟩,turn⟩:=h;refine wpAny_While (codeAny_whileLoop (fun n s'=>∃σ' H',Inv X uV σ' H' s'/\W n σ' H') ?_ m0 ⟨σ,H,I,w0⟩);rintro n s1 ⟨σ1,H1,I1,w1⟩;refine wpAny_passesOwn hp (thn (hc uV s1 σ1 H1 _ I1 (turn n σ1 H1 w1)) fun b s2 ⟨H2,I2,q2⟩=>?_);cases b with
 |true=>
  obtain⟨N,hN,q2⟩:=q2;rw[if_pos rfl];refine wpAny_passesOwn hp (thn (hb uV s2 σ1 H2 _ I2 q2) fun f s3 q3=>?_);cases f with
  |next=>obtain⟨σ3,H3,I3,n3⟩:=q3;obtain⟨m',hm,w3⟩:=hN σ3 H3 n3;exact⟨m',hm,σ3,H3,I3,w3⟩
  |cont=>obtain⟨σ3,H3,I3,n3⟩:=q3;obtain⟨m',hm,w3⟩:=hN σ3 H3 n3;exact⟨m',hm,σ3,H3,I3,w3⟩
  |brk=>exact q3
  |ret v=>exact q3
 |false=>rw[if_neg Ua];exact wpAny_execs_nil ⟨σ1,H2,I2,q2⟩
end
section
variable{P:Program}{tg:Expr}{w:World}{s:Shared}
structure It where
 go:Nat->Hp->Prop
 yld:Nat->Hp->V->Hp->Prop
 stop:Nat->Hp->Prop
def mG(X:Cx)(uV:List (Addr×Obj))(H:Hp)(b:Addr):Prop:=
 H b=none/\b≠X.env.locals/\b∉X.fs/\(b∈X.ex\/X.s₀.heap.objs.size<=b)/\(∀x c,X.env.cells.lookup x=some c->c≠b)/\∀p∈X.pn++uV,p.1≠b
theorem Inv.tP{X:Cx}{uV:List (Addr×Obj)}{σ:St}{H H':Hp}{b:Addr}(I:Inv X uV σ H s)(hb:s.heap.objs.size<=b)(hn:H' b=none):mG X uV H' b:=by
 refine⟨hn,UM (Tw I.lt hb),I.Ks hb,.inr (Nat.le_trans I.sz hb),fun x c e z=>?_,fun p hp z=>?_⟩
 ·obtain⟨v,q⟩:=I.cell x c e;exact absurd (Tw q.lt (by rw[z];exact hb)) (Uu _)
 ·exact absurd (Tw (Tn (I.pin p hp).1) (by rw[z];exact hb)) (Uu _)
structure Turn(P:Program)(w:World)(K:eg)(tg:Expr)(J:It)(fp:List Addr)(it:Addr)(tn:Nat->Heap->Prop):Prop where
 mem:it∈fp
 obj:∀i h,tn i h->∀b∈fp,∃o,h.get? b=some o/\∀v,o.data≠.cell v
 keep:∀i h h',tn i h->(∀b∈fp,∀o,h.get? b=some o->h'.get? b=some o)->tn i h'
 item:∀(X:Cx),X.prog=P->X.w=w->X.K=K->X.calm=true->∀(i:Nat) (uV:List (Addr×Obj)) (s:Shared) (σ:St) (H:Hp) (E:Value->Shared->Prop),Inv X uV σ H s->(∀b∈fp,mG X uV H b)->tn i s.heap->J.go i H ->
  wpAny (model P w) X.A (pyNext (.ref it)) (fun r s1=>∃ u,r=some u ∧
   wpAny (model P w) X.A (letOwnedTupleGo tg (.ref it) u) (fun _ s2=>∃x H',Inv X uV σ H' s2/\RelV x u/\J.yld i H x H'/\tn (i+1) s2.heap/\∀b∈fp,H' b=none) E s1) E s
 done:∀(X:Cx),X.prog=P->X.w=w->X.K=K->X.calm=true->∀(i:Nat) (uV:List (Addr×Obj)) (s:Shared) (σ:St) (H:Hp) (E:Value->Shared->Prop),Inv X uV σ H s->(∀b∈fp,mG X uV H b)->tn i s.heap->J.stop i H ->
  wpAny (model P w) X.A (pyNext (.ref it)) (fun r s1=>r=none/\Inv X uV σ H s1) E s
 self:∀(A:Around) (i:Nat) (s:Shared) (Q:Value->Shared->Prop) (E:Value->Shared->Prop),tn i s.heap->Q (.ref it) s->wpAny (model P w) A (pyIter (.ref it)) Q E s
noncomputable abbrev TI:=St->Hp->(It->Hp->Prop)->Prop
def PIE(X:Cx)(uV:List (Addr×Obj))(σ:St)(tg:Expr)(R:It->Hp->Prop)(itv:Value)(s2:Shared):Prop:=
 ∃(it:Addr) (fp:List Addr) (tn:Nat->Heap->Prop) (J:It) (H':Hp),itv=.ref it/\Inv X uV σ H' s2/\Turn X.prog X.w X.K tg J fp it tn/\tn 0 s2.heap/\(∀b∈fp,mG X uV H' b)/\R J H'
def PI(X:Cx)(tg iter:Expr)(wi:TI):Prop:=
 ∀(uV:List (Addr×Obj)) (s:Shared) (σ:St) (H:Hp) (R:It->Hp->Prop),Inv X uV σ H s->wi σ H R ->
  wpAny (model X.prog X.w) X.A (eval iter X.env) (fun v s1=>wpAny (model X.prog X.w) X.A (pyIter v) (PIE X uV σ tg R) X.xe s1) X.xe s
theorem tQ{M:Model}{A:Around}{E:Value->Shared->Prop}{tg:Expr}{it:Addr}{u:Value}{o:Obj}{n:String}{vs:Array Value}{Q:Unit->Shared->Prop}(ho:s.heap.get? it=some o)(hc:o.cls=.type n)(hd:o.data=.fields vs)
  (hn:["enumerate","zip","dict_itemiterator","dict_reverseitemiterator","odict_iterator","itertools.zip_longest","itertools.pairwise"].contains n=false) (hQ:Q () s):wpAny M A (letOwnedTupleGo tg (.ref it) u) Q E s:=by
 unfold letOwnedTupleGo;cases tg<;>first
  |exact wpAny_pure hQ
  | (cases u<;>first
    |exact wpAny_pure hQ
    | (refine wpAny_bind (wpAny_load ho ?_)
       rw[hc,hd];show wpAny M A (if (["enumerate","zip","dict_itemiterator","dict_reverseitemiterator","odict_iterator","itertools.zip_longest","itertools.pairwise"].contains n&&vs[0]? == some (rawInt _))=true then _ else _) Q E s;rw[if_neg (by intro h;rw[hn,Bool.false_and]at h;cases h)];exact wpAny_pure hQ))
noncomputable def Itl(K:eg)(a:Addr):It:=
 ⟨fun i H=>∃xs x,SqL K H a xs/\xs[i]?=some x,fun i H x H'=>H'=H/\∀xs,SqL K H a xs->xs[i]?=some x,fun i H=>∃xs,SqL K H a xs/\xs.length<=i⟩
noncomputable def Itt(K:eg)(a:Addr):It:=
 ⟨fun i H=>∃xs x,SqT K H a xs/\xs[i]?=some x,fun i H x H'=>H'=H/\∀xs,SqT K H a xs->xs[i]?=some x,fun i H=>∃xs,SqT K H a xs/\xs.length<=i⟩
noncomputable def Itr(lo:Int)(n:Nat):It:=⟨fun i _=>i<n,fun i H x H'=>H'=H/\x=.int (lo+i),fun i _=>n<=i⟩
theorem zY{K:eg}(a it:Addr):Turn P w K tg (Itl K a) [it] it (fun i h=>h.IsListIter it a i) where
 mem:=by simp
 obj:=fun i h st b hb=>by
  have e:b=it:=by simpa using hb
  subst e;obtain⟨o,e,c,d⟩:=st;exact⟨o,e,fun v z=>by rw[d]at z;cases z⟩
 keep:=fun i h h' st k=>st.at fun o e=>k it (by simp) o e
 item:=by intro X hP hw hK hc i uV s σ H E I hf st hg;subst hP hw hK;obtain⟨xs,x,hq,hx⟩:=hg;obtain⟨its,rv,p,hz⟩:=I.list hq;obtain⟨u,hu,ru⟩:=rv.get hx;obtain⟨f0,f1,f2,f3,f4,f5⟩:=hf it (by simp);refine wpAny_pyNext_list_item st p.isList (x:=u) (by simpa using hu) fun h' st' sb=>?_;have I1:Inv X uV σ H { s with heap:=h' }:=I.turned (t':=s.toks) (fun b o hb e=>(sb.2 b hb).trans e) f0 f1 f3 f4 f5;obtain⟨o,e,c,d⟩:=id st';exact⟨u,rfl,tQ (s:={ s with heap:=h' }) e c d (by decide) ⟨x,H,I1,ru,⟨rfl,fun ys hy=>by rw[I.fO hy hq];exact hx⟩,st',fun b hb=>(hf b hb).1⟩⟩
 done:=by intro X hP hw hK hc i uV s σ H E I hf st hg;subst hP hw hK;obtain⟨xs,hq,hx⟩:=hg;obtain⟨its,rv,p,hz⟩:=I.list hq;obtain⟨f0,f1,f2,f3,f4,f5⟩:=hf it (by simp);have hl:=rv.length;exact wpAny_pyNext_list_end (I.ok.hd hc) st p.isList (by simp;lia) fun h' eb=>⟨rfl,I.turned (t':=s.toks) (fun b o hb e=>eb b o hb e) f0 f1 f3 f4 f5⟩
 self:=fun _ _ _ _ _ st h=>wpAny_pyIter_listiter st h
theorem wJ{K:eg}(a it:Addr):Turn P w K tg (Itt K a) [it] it (fun i h=>h.IsTupleIter it a i) where
 mem:=by simp
 obj:=fun i h st b hb=>by
  have e:b=it:=by simpa using hb
  subst e;obtain⟨o,e,c,d⟩:=st;exact⟨o,e,fun v z=>by rw[d]at z;cases z⟩
 keep:=fun i h h' st k=>st.at fun o e=>k it (by simp) o e
 item:=by intro X hP hw hK hc i uV s σ H E I hf st hg;subst hP hw hK;obtain⟨xs,x,hq,hx⟩:=hg;obtain⟨its,rv,p,hz⟩:=I.tuple hq;obtain⟨u,hu,ru⟩:=rv.get hx;obtain⟨f0,f1,f2,f3,f4,f5⟩:=hf it (by simp);refine wpAny_pyNext_tuple_item st (show s.heap.IsTuple a its.toArray from p) (x:=u) (by simpa using hu) fun h' st' sb=>?_;have I1:Inv X uV σ H { s with heap:=h' }:=I.turned (t':=s.toks) (fun b o hb e=>(sb.2 b hb).trans e) f0 f1 f3 f4 f5;obtain⟨o,e,c,d⟩:=id st';exact⟨u,rfl,tQ (s:={ s with heap:=h' }) e c d (by decide) ⟨x,H,I1,ru,⟨rfl,fun ys hy=>by rw[I.zW hy hq];exact hx⟩,st',fun b hb=>(hf b hb).1⟩⟩
 done:=by intro X hP hw hK hc i uV s σ H E I hf st hg;subst hP hw hK;obtain⟨xs,hq,hx⟩:=hg;obtain⟨its,rv,p,hz⟩:=I.tuple hq;obtain⟨f0,f1,f2,f3,f4,f5⟩:=hf it (by simp);have hl:=rv.length;exact wpAny_pyNext_tuple_end (I.ok.hd hc) st (show s.heap.IsTuple a its.toArray from p) (by simp;lia) fun h' eb=>⟨rfl,I.turned (t':=s.toks) (fun b o hb e=>eb b o hb e) f0 f1 f3 f4 f5⟩
 self:=fun _ _ _ _ _ st h=>wpAny_pyIter_tupleiter st h
theorem wK{K:eg}(it:Addr)(lo:Int)(n:Nat):Turn P w K tg (Itr lo n) [it] it (fun i h=>IsRangeIter h it (lo+(i:Nat)*1) ((n:Int)-(i:Nat)) 1) where
 mem:=by simp
 obj:=fun i h st b hb=>by
  have e:b=it:=by simpa using hb
  subst e;exact ⟨_,st,fun v z=>by have z':W3 _=Wq v:=z;cases z'⟩
 keep:=fun i h h' st k=>k it (by simp) _ st
 item:=by intro X hP hw hK hc i uV s σ H E I hf st hg;subst hP hw hK;obtain⟨f0,f1,f2,f3,f4,f5⟩:=hf it (by simp);have W:=Walks.range (prog:=X.prog) (w:=X.w) (I.ok.hd hc) it lo 1 n;refine W.item i s _ _ hg st fun v h' tk hv st' kk=>?_;obtain⟨t,rfl⟩:=hv;have I1:Inv X uV σ H { s with heap:=h',toks:=tk }:=I.turned (fun b o hb e=>kk b o (by simpa using hb) e) f0 f1 f3 f4 f5;refine⟨_,rfl,tQ (s:={ s with heap:=h',toks:=tk }) (n := "range_iterator") st' rfl rfl (by decide) ⟨.int (lo+i),H,I1,⟨t,?_⟩,⟨rfl,rfl⟩,st',fun b hb=>(hf b hb).1⟩⟩;rw[Int.mul_one]
 done:=by intro X hP hw hK hc i uV s σ H E I hf st hg;subst hP hw hK;obtain⟨f0,f1,f2,f3,f4,f5⟩:=hf it (by simp);exact wpAny_pyNext_range_end (I.ok.hd hc) st (by have:n<=i:=hg;lia) fun h' eb=>⟨rfl,I.turned (t':=s.toks) (fun b o hb e=>eb b o hb e) f0 f1 f3 f4 f5⟩
 self:=fun _ _ _ _ _ st h=>wpAny_pyIter_rangeiter st h
end
section
variable{X:Cx}{tg:Expr}
section
variable{uV:List (Addr×Obj)}{fp:List Addr}{s:Shared}{H:Hp}{σ:St}{l:Expr}{h:Heap}{tl:TE}{ta:TA}
def tR(K:eg)(tl:TE):TI:=fun σ H R=>tl σ H fun x H1=>∃a,x=.ref a/\(∃xs,SqL K H1 a xs)/\R (Itl K a) H1
def Bx(K:eg)(tl:TE):TI:=fun σ H R=>tl σ H fun x H1=>∃a,x=.ref a/\(∃xs,SqT K H1 a xs)/\R (Itt K a) H1
theorem yp(hl:PE X l tl):PI X tg l (tR X.K tl):=by
 intro uV s σ H R I h;refine thn (hl uV s σ H _ I h) fun v s1 ⟨x,H1,I1,r1,q1⟩=>?_;obtain⟨a,e,⟨xs,hq⟩,q⟩:=q1;subst e;cases r1;obtain⟨its,rv,p,hz⟩:=I1.list hq;refine wpAny_pyIter_list p.isList ?_;refine⟨s1.heap.objs.size,[s1.heap.objs.size],_,_,H1,rfl,I1.kept (t':=s1.toks) fun b o e=>gV _ e,zY a _,⟨_,TQ _ rfl,rfl,rfl⟩,fun b hb=>?_,q⟩;have e:b=s1.heap.objs.size:=by simpa using hb
 subst e;exact I1.tP (Nat.le_refl _) (I1.hok.fresh (Nat.le_refl _))
theorem By(hl:PE X l tl):PI X tg l (Bx X.K tl):=by
 intro uV s σ H R I h;refine thn (hl uV s σ H _ I h) fun v s1 ⟨x,H1,I1,r1,q1⟩=>?_;obtain⟨a,e,⟨xs,hq⟩,q⟩:=q1;subst e;cases r1;obtain⟨its,rv,p,hz⟩:=I1.tuple hq;refine wpAny_pyIter_tuple (show s1.heap.IsTuple a its.toArray from p) ?_;refine⟨s1.heap.objs.size,[s1.heap.objs.size],_,_,H1,rfl,I1.kept (t':=s1.toks) fun b o e=>gV _ e,wJ a _,⟨_,TQ _ rfl,rfl,rfl⟩,fun b hb=>?_,q⟩;have e:b=s1.heap.objs.size:=by simpa using hb
 subst e;exact I1.tP (Nat.le_refl _) (I1.hok.fresh (Nat.le_refl _))
theorem tS{R:It->Hp->Prop}{E:Value->Shared->Prop}{lo hi:Int}{t u v:Tok}{tk:Nat}(I:Inv X uV σ H s)(h1:-(2 ^ 62)<=lo)(h2:lo<2 ^ 62)(h3:-(2 ^ 62)<=hi)(h4:hi<2 ^ 62)
  (q:R (Itr lo (hi-lo).toNat) H):wpAny (model X.prog X.w) X.A (pyIter (.ref s.heap.objs.size)) (PIE X uV σ tg R) E { s with heap:=s.heap.push { cls:=.type "range",data:=.fields #[.int lo t,.int hi u,.int 1 v] },toks:=tk }:=by
 refine wpAny_pyIter_range (IsRange.new ..) (small_one h1 h2 h3 h4) ?_;have I1:Inv X uV σ H { s with heap:=s.heap.push { cls:=.type "range",data:=.fields #[.int lo t,.int hi u,.int 1 v] },toks:=tk }:=I.kept fun b o e=>gV _ e;refine ⟨(s.heap.push { cls:=.type "range",data:=.fields #[.int lo t,.int hi u,.int 1 v] }).objs.size,[(s.heap.push { cls:=.type "range",data:=.fields #[.int lo t,.int hi u,.int 1 v] }).objs.size],_,_,H,rfl,
  I1.kept (t':=tk) fun b o e=>gV _ e,wK _ lo (hi-lo).toNat,?_,fun b hb=>?_,q⟩
 ·have e1:lo+((0:Nat):Int)*1=lo:=by simp
  have e2:(((hi-lo).toNat:Nat):Int)-((0:Nat):Int)=U6 lo hi 1:=by rw[rangeSize_one];split<;>lia
  show IsRangeIter _ _ (lo+((0:Nat):Int)*1) ((((hi-lo).toNat:Nat):Int)-((0:Nat):Int)) 1;rw[e1,e2];exact TQ _ rfl
 ·have e:b=(s.heap.push { cls:=.type "range",data:=.fields #[.int lo t,.int hi u,.int 1 v] }).objs.size:=by simpa using hb
  subst e;exact I1.tP (Nat.le_refl _) (I1.hok.fresh (Nat.le_refl _))
def IG(ta:TA):TI:=fun σ H R=>ta σ H fun vs H1=>∃j:Int,vs=[.int j]/\-(2 ^ 62)<=j/\j<2 ^ 62/\R (Itr 0 j.toNat) H1
def II(ta:TA):TI:=fun σ H R=>ta σ H fun vs H1=>∃i j:Int,vs=[.int i,.int j]/\(-(2 ^ 62)<=i/\i<2 ^ 62/\-(2 ^ 62)<=j/\j<2 ^ 62)/\R (Itr i (j-i).toNat) H1
theorem zZ{a:Expr}{p pos:Pos}(hg:Gl X "range")(hm:X.mg "range" = none)(ha:PA X [a] ta)(hs:starEach [a] X.env=[(false,eval a X.env)]:=by rfl):PI X tg (.Call (.Name "range" p) [a] [] pos) (IG ta):=by
 intro uV s σ H R I h;refine Call_ (cN I hg hm boot_range (Ub (thn (ha pos uV s σ H _ I h) fun us s1 ⟨vs,H1,I1,r1,q1⟩=>?_) hs rfl));obtain⟨j,e,q1,q2,q⟩:=q1;subst e;cases r1 with
 |cons r rr=>cases rr;obtain⟨t,rfl⟩:=r;exact call_range_1 (tS I1 (by lia) (by lia) q1 q2 (by simpa using q))
theorem z0{a b:Expr}{p pos:Pos}(hg:Gl X "range")(hm:X.mg "range" = none)(ha:PA X [a,b] ta)(hs:starEach [a,b] X.env=[(false,eval a X.env),(false,eval b X.env)]:=by rfl)(hs2:starEach [b] X.env=[(false,eval b X.env)]:=by rfl) :
  PI X tg (.Call (.Name "range" p) [a,b] [] pos) (II ta):=by
 intro uV s σ H R I h;refine Call_ (cN I hg hm boot_range (Ub (thn (ha pos uV s σ H _ I h) fun us s1 ⟨vs,H1,I1,r1,q1⟩=>?_) (by rw[hs,hs2]) (by rw[hs2];rfl)));obtain⟨i,j,e,⟨q1,q2,q3,q4⟩,q⟩:=q1;subst e;cases r1 with
 |cons r rr=>
  cases rr with
  |cons r' rr=>cases rr;obtain⟨t,rfl⟩:=r;obtain⟨t',rfl⟩:=r';exact call_range_2 (tS I1 q1 q2 q3 q4 q)
def KQ(wi:TI)(g:TG)(tb:TS):TS:=fun D σ H=>wi σ H fun J H1=>∃W:Nat->Nat->St->Hp->Prop,(∃m,W 0 m σ H1)/\∀i m σ H,W i m σ H ->
 (J.stop i H/\D.nx σ H)\/(J.go i H/\∃N:St->Hp->Prop,(∀σ' H',N σ' H'->∃m',m'<m/\W (i+1) m' σ' H')/\∀x H',J.yld i H x H'->g x σ H' fun σ2 H2=>tb { D with nx:=N,ct:=N,bk:=D.nx } σ2 H2)
noncomputable def mH(fp:List Addr)(h:Heap):List (Addr×Obj):=fp.filterMap fun b=>(h.get? b).map fun o=>(b,o)
theorem eX{b:Addr}{o:Obj}(hb:b∈fp)(e:h.get? b=some o):(b,o)∈mH fp h:=Wu.mpr ⟨b,hb,by rw[e];rfl⟩
theorem z5{p:Addr×Obj}(hp:p∈mH fp h):p.1∈fp/\h.get? p.1=some p.2:=by
 obtain⟨b,hb,e⟩:=Wu.mp hp;cases q:h.get? b with
 |none=>rw[q]at e;cases e
 |some o=>rw[q]at e;have e':(b,o)=p:=Option.some.inj e;subst e';exact⟨hb,q⟩
theorem Inv.pinned(I:Inv X uV σ H s)(hf:∀b∈fp,mG X uV H b)(ho:∀b∈fp,∃o,s.heap.get? b=some o/\∀v,o.data≠.cell v):Inv X (uV++mH fp s.heap) σ H s:=
 I.lW fun p hp=>(T9.mp hp).elim (fun z=>I.pin p (TY _ z)) fun z=>by obtain⟨hb,e⟩:=z5 z;obtain⟨f0,f1,f2,_⟩:=hf p.1 hb;obtain⟨o,e',d⟩:=ho p.1 hb;rw[e]at e';cases e';exact⟨e,f0,f1,f2,d⟩
theorem Inv.jD{uV pl:List (Addr×Obj)}(I:Inv X (uV++pl) σ H s):Inv X uV σ H s:=I.lW fun p hp=>I.pin p (TY _ (UQ _ hp))
theorem BA{iter:Expr}{body:List Stmt}{wi:TI}{g:TG}{tb:TS}{pos:Pos}(hp:PassesOwn (model X.prog X.w) X.A X.env X.xe)(hc:X.calm=true)(hi:PI X tg iter wi)(hg:PG X tg g)(hb:PSs X body tb)
  (hs:∀x,foldedSetIterable iter X.env x=pure x:=by intro _;rfl):PS X (.For tg iter body [] pos) (KQ wi g tb):=by
 intro uV s σ H D I h;refine wpAny_For (thn (hi uV s σ H _ I h) fun v s1 h1=>thn h1 fun itv s2 h2=>?_) hs;obtain⟨it,fp,tn,J,H2,e,I2,T,st2,f2,W,⟨m0,w0⟩,turn⟩:=h2;subst e;have stat:∀{H':Hp},(∀b∈fp,H' b=none)->∀b∈fp,mG X uV H' b:=fun hn b hb=>⟨hn b hb,(f2 b hb).2⟩;refine codeAny_forLoop_any (fun n s'=>∃i σ' H',Inv X uV σ' H' s'/\tn i s'.heap/\(∀b∈fp,H' b=none)/\W i n σ' H') ?_ m0 ⟨0,σ,H2,I2,st2,fun b hb=>(f2 b hb).1,w0⟩;rintro n s3 ⟨i,σ3,H3,I3,st3,fr3,w3⟩;rcases turn i n σ3 H3 w3 with⟨stop,qn⟩ | ⟨go,N,hN,step⟩
 ·refine wpAny_passesOwn hp (thn (T.done X rfl rfl rfl hc i uV s3 σ3 H3 X.xe I3 (stat fr3) st3 stop) fun r s4 ⟨hr,I4⟩=>?_);subst hr;exact wpAny_execs_nil ⟨σ3,H3,I4,qn⟩
 ·refine wpAny_passesOwn hp (thn (T.item X rfl rfl rfl hc i uV s3 σ3 H3 X.xe I3 (stat fr3) st3 go) fun r s4 ⟨u,hr,h4⟩=>?_);subst hr;refine wpAny_passesOwn hp (thn h4 fun _ s5 ⟨x,H5,I5,r5,y5,st5,fr5⟩=>?_);have I5':=I5.pinned (stat fr5) (T.obj _ _ st5);refine wpAny_passesOwn hp (thn (hg _ s5 σ3 H5 x u _ I5' r5 (step x H5 y5)) fun _ s6 ⟨σ6,H6,I6,q6⟩=>?_);refine wpAny_passesOwn hp (thn (hb _ s6 σ6 H6 _ I6 q6) fun f s7 q7=>?_);have again:∀{σ7:St} {H7:Hp},Inv X (uV++mH fp s5.heap) σ7 H7 s7->N σ7 H7->∃m,m<n/\∃i σ' H',Inv X uV σ' H' s7/\tn i s7.heap/\(∀b∈fp,H' b=none)/\W i m σ' H':=fun {σ7 H7} I7 n7=>by
   obtain⟨m',hm,w7⟩:=hN σ7 H7 n7;refine⟨m',hm,i+1,σ7,H7,I7.jD,T.keep _ _ _ st5 fun b hb o e=>(I7.pin (b,o) (TY _ (TY _ (eX hb e)))).1,fun b hb=>?_,w7⟩;obtain⟨o,e,d⟩:=T.obj _ _ st5 b hb;exact(I7.pin (b,o) (TY _ (TY _ (eX hb e)))).2.1
  cases f with
  |next=>obtain⟨σ7,H7,I7,n7⟩:=q7;exact again I7 n7
  |cont=>obtain⟨σ7,H7,I7,n7⟩:=q7;exact again I7 n7
  |brk=>obtain⟨σ7,H7,I7,q7⟩:=q7;exact⟨σ7,H7,I7.jD,q7⟩
  |ret v=>obtain⟨x7,σ7,H7,I7,r7,q7⟩:=q7;exact⟨x7,σ7,H7,I7.jD,r7,q7⟩
end
end
noncomputable abbrev R2:=V->V->Hp->VK->Prop
def OpR(X:Cx)(f:Value->Value->Sem Value)(r:R2):Prop:=
 ∀(uV:List (Addr×Obj)) (s:Shared) (σ:St) (H:Hp) (x y:V) (v u:Value) (Q:VK),Inv X uV σ H s->RelV x v->RelV y u->r x y H Q ->
  wpAny (model X.prog X.w) X.A (f v u) (EP X uV σ Q) X.xe s
def UnR(X:Cx)(f:Value->Sem Value)(r:V->Hp->VK->Prop):Prop:=
 ∀(uV:List (Addr×Obj)) (s:Shared) (σ:St) (H:Hp) (x:V) (v:Value) (Q:VK),Inv X uV σ H s->RelV x v->r x H Q ->
  wpAny (model X.prog X.w) X.A (f v) (EP X uV σ Q) X.xe s
def cy(X:Cx)(f:Value)(r:List V->Hp->VK->Prop):Prop:=
 ∀(uV:List (Addr×Obj)) (s:Shared) (σ:St) (H:Hp) (xs:List V) (us:List Value) (Q:VK),Inv X uV σ H s->Vals xs us->r xs H Q ->
  wpAny (model X.prog X.w) X.A (call f us) (EP X uV σ Q) X.xe s
def RQ(X:Cx)(r:V->Hp->(Bool->Hp->Prop)->Prop):Prop:=
 ∀(uV:List (Addr×Obj)) (s:Shared) (σ:St) (H:Hp) (x:V) (v:Value) (Q:Bool->Hp->Prop),Inv X uV σ H s->RelV x v->r x H Q ->
  wpAny (model X.prog X.w) X.A (truthy v) (TP X uV σ Q) X.xe s
def tOp(r:R2)(ta tb:TE):TE:=fun σ H Q=>ta σ H fun x H1=>tb σ H1 fun y H2=>r x y H2 Q
def tUn(r:V->Hp->VK->Prop)(ta:TE):TE:=fun σ H Q=>ta σ H fun x H1=>r x H1 Q
def rI(C:Int->Int->Prop)(g:Int->Int->V):R2:=fun x y H Q=>∃i j,x=.int i/\y=.int j/\C i j/\Q (g i j) H
def rI0(g:Int->Int->V):R2:=fun x y H Q=>∃i j,x=.int i/\y=.int j/\Q (g i j) H
def rU(g:Int->V):V->Hp->VK->Prop:=fun x H Q=>∃i,x=.int i/\Q (g i) H
section
variable{X:Cx}{a b c:Expr}{ta tb tc:TE}{pos:Pos}
theorem KR(ha:PE X a ta)(hb:PE X b tb){uV:List (Addr×Obj)}{s:Shared}{σ:St}{H:Hp}{R:V->V->Hp->Prop}(I:Inv X uV σ H s)
  (h:ta σ H fun x H1=>tb σ H1 fun y H2=>R x y H2) {Q:Value->Shared->Prop} {f:Value->Value->Sem Value}
  (hf:∀v u s2 x y H2,Inv X uV σ H2 s2->RelV x v->RelV y u->R x y H2->wpAny (model X.prog X.w) X.A (f v u) Q X.xe s2) :
  wpAny (model X.prog X.w) X.A (eval a X.env) (fun v s₁=>wpAny (model X.prog X.w) X.A (eval b X.env) (fun u s₂=>wpAny (model X.prog X.w) X.A (f v u) Q X.xe s₂) X.xe s₁) X.xe s:=by
 refine thn (ha uV s σ H _ I h) fun v s1 ⟨x,H1,I1,r1,q1⟩=>?_;refine thn (hb uV s1 σ H1 _ I1 q1) fun u s2 ⟨y,H2,I2,r2,q2⟩=>?_;exact hf v u s2 x y H2 I2 r1 r2 q2
theorem Ov{op:Operator}{r:R2}(ho:OpR X (binaryOp op) r)(ha:PE X a ta)(hb:PE X b tb):PE X (.BinOp a op b pos) (tOp r ta tb):=by intro uV s σ H Q I h;exact wpAny_BinOp (KR ha hb I h fun v u s2 x y H2 I2 rx ry q=>ho uV s2 σ H2 x y v u Q I2 rx ry q)
theorem Ow{op:UnaryOp}{r:V->Hp->VK->Prop}(ho:UnR X (unaryOp op) r)(ha:PE X a ta):PE X (.UnaryOp op a pos) (tUn r ta):=by intro uV s σ H Q I h;exact UnaryOp_ (thn (ha uV s σ H _ I h) fun v s1 ⟨x,H1,I1,r1,q1⟩=>ho uV s1 σ H1 x v Q I1 r1 q1)
theorem opI{f:Value->Value->Sem Value}{C:Int->Int->Prop}{g:Int->Int->Int}
  (rule:∀(i j:Int) (t u:Tok) (s:Shared) (Q:Value->Shared->Prop) (E:Value->Shared->Prop),C i j->Q (.int (g i j) s.toks) { s with toks:=s.toks+1 }->wpAny (model X.prog X.w) X.A (f (.int i t) (.int j u)) Q E s) :
  OpR X f (rI C fun i j=>.int (g i j)):=by
 intro uV s σ H x y v u Q I rx ry h;obtain⟨i,j,rfl,rfl,hc,q⟩:=h;obtain⟨t,rfl⟩:=rx;obtain⟨t',rfl⟩:=ry;exact rule i j t t' s _ _ hc ⟨.int (g i j),H,I.tok _,⟨_,rfl⟩,q⟩
theorem Ox{f:Value->Value->Sem Value}{g:Int->Int->Int}
  (rule:∀(i j:Int) (t u:Tok) (s:Shared) (Q:Value->Shared->Prop) (E:Value->Shared->Prop),Q (.int (g i j) s.toks) { s with toks:=s.toks+1 }->wpAny (model X.prog X.w) X.A (f (.int i t) (.int j u)) Q E s) :
  OpR X f (rI0 fun i j=>.int (g i j)):=by
 intro uV s σ H x y v u Q I rx ry h;obtain⟨i,j,rfl,rfl,q⟩:=h;obtain⟨t,rfl⟩:=rx;obtain⟨t',rfl⟩:=ry;exact rule i j t t' s _ _ ⟨.int (g i j),H,I.tok _,⟨_,rfl⟩,q⟩
theorem FQ{f:Value->Value->Sem Value}{g:Int->Int->Bool}
  (rule:∀(i j:Int) (t u:Tok) (s:Shared) (Q:Value->Shared->Prop) (E:Value->Shared->Prop),Q (.bool (g i j)) s->wpAny (model X.prog X.w) X.A (f (.int i t) (.int j u)) Q E s) :
  OpR X f (rI0 fun i j=>.bl (g i j)):=by
 intro uV s σ H x y v u Q I rx ry h;obtain⟨i,j,rfl,rfl,q⟩:=h;obtain⟨t,rfl⟩:=rx;obtain⟨t',rfl⟩:=ry;exact rule i j t t' s _ _ ⟨.bl (g i j),H,I,rfl,q⟩
def Oz(i j:Int):Prop:=0<=j/\j<=1000000/\i.natAbs<2 ^ 64
def BB(i j:Int):Prop:=(-(2 ^ 64)<i/\i<2 ^ 64)\/(-(2 ^ 64)<j/\j<2 ^ 64)
theorem BB.ok{i j:Int}(h:BB i j):IntMulOk i j:=by
 rcases h with⟨h1,h2⟩ | ⟨h1,h2⟩
 ·exact .of_left (intBits_le_64 h1 h2)
 ·exact .of_right (intBits_le_64 h1 h2)
theorem KS:OpR X (binaryOp .Add) (rI0 fun i j=>.int (i+j)):=Ox fun _ _ _ _ _ _ _ q=>add_int q
theorem KU:OpR X (binaryOp .Sub) (rI0 fun i j=>.int (i-j)):=Ox fun _ _ _ _ _ _ _ q=>sub_int q
theorem KW:OpR X (binaryOp .Mult) (rI BB fun i j=>.int (i*j)):=opI fun _ _ _ _ _ _ _ hc q=>mul_int q hc.ok
theorem KY:OpR X (binaryOp .Mod) (rI (fun _ j=>0<j) fun i j=>.int (i % j)):=opI fun i j _ _ _ _ _ hc q=>by have h1:(0:Int)<j:=hc;exact mod_int' (by lia) (by rw[Int.fmod_eq_emod_of_nonneg i (by lia)];exact q)
theorem KZ:OpR X (binaryOp .Pow) (rI Oz fun i j=>.int (i ^ j.toNat)):=opI fun _ _ _ _ _ _ _ hc q=>pow_int_small hc.1 hc.2.1 hc.2.2 q
theorem unI{f:Value->Sem Value}{g:Int->Int}
  (rule:∀(i:Int) (t:Tok) (s:Shared) (Q:Value->Shared->Prop) (E:Value->Shared->Prop),Q (.int (g i) s.toks) { s with toks:=s.toks+1 }->wpAny (model X.prog X.w) X.A (f (.int i t)) Q E s) :
  UnR X f (rU fun i=>.int (g i)):=by
 intro uV s σ H x v Q I rx h;obtain⟨i,rfl,q⟩:=h;obtain⟨t,rfl⟩:=rx;exact rule i t s _ _ ⟨.int (g i),H,I.tok _,⟨_,rfl⟩,q⟩
theorem K0:UnR X (unaryOp .USub) (rU fun i=>.int (-i)):=unI fun _ _ _ _ _ q=>neg_int q
end
section
variable{X:Cx}{a b c:Expr}{ta tb tc:TE}{pos:Pos}
theorem IK:OpR X (compareOp .Lt) (rI0 fun i j=>.bl (decide (i<j))):=FQ fun _ _ _ _ _ _ _ q=>lt_int q
theorem yq:OpR X (compareOp .LtE) (rI0 fun i j=>.bl (decide (i<=j))):=FQ fun _ _ _ _ _ _ _ q=>le_int q
theorem IL:OpR X (compareOp .Gt) (rI0 fun i j=>.bl (decide (j<i))):=FQ fun _ _ _ _ _ _ _ q=>gt_int q
theorem OA:OpR X (compareOp .GtE) (rI0 fun i j=>.bl (decide (j<=i))):=FQ fun _ _ _ _ _ _ _ q=>ge_int q
theorem OpR.or{f:Value->Value->Sem Value}{r r':R2}(h:OpR X f r)(h':OpR X f r'):OpR X f (fun x y H Q=>r x y H Q\/r' x y H Q):=by
 intro uV s σ H x y v u Q I rx ry q;rcases q with q | q
 ·exact h uV s σ H x y v u Q I rx ry q
 ·exact h' uV s σ H x y v u Q I rx ry q
theorem dG(b:Expr){op:CmpOp}(h:op≠.In:=by decide)(h2:op≠.NotIn:=by decide):behindInMarks op b=false:=by
 have e1:(op == CmpOp.In)=false:=by cases op<;>first | rfl | exact absurd rfl h
 have e2:(op == CmpOp.NotIn)=false:=by cases op<;>first | rfl | exact absurd rfl h2
 cases b<;>simp[behindInMarks,e1,e2]
theorem FU{op:CmpOp}{r:R2}(ho:OpR X (compareOp op) r)(ha:PE X a ta)(hb:PE X b tb)(hm:behindInMarks op b=false):PE X (.Compare a [op] [b] pos) (tOp r ta tb):=by intro uV s σ H Q I h;exact wpAny_Compare1 (KR ha hb I h fun v u s2 x y H2 I2 rx ry q=>ho uV s2 σ H2 x y v u Q I2 rx ry q) hm
def IP(t:TE):TT:=fun σ H Q=>t σ H fun x H'=>∃k,x=.bl k/\Q k H'
theorem FW{op:CmpOp}{r:R2}(ho:OpR X (compareOp op) r)(ha:PE X a ta)(hb:PE X b tb)(hm:behindInMarks op b=false):PT X (.Compare a [op] [b] pos) (IP (tOp r ta tb)):=by
 intro uV s σ H Q I h;refine wpAny_isTrue_Compare1 (thn (ha uV s σ H _ I h) fun v s1 ⟨x,H1,I1,r1,q1⟩=>thn (hb uV s1 σ H1 _ I1 q1) fun u s2 ⟨y,H2,I2,r2,q2⟩=>thn (ho uV s2 σ H2 x y v u _ I2 r1 r2 q2) fun c s3 ⟨z,H3,I3,r3,k,e,q3⟩=>?_) hm
 subst e;cases r3;exact wpAny_truthy_bool ⟨H3,I3,q3⟩
def BC(r r':R2)(ta tb tc:TE):TE:=fun σ H Q=>ta σ H fun x H1=>tb σ H1 fun y H2=>r x y H2 fun z H3=>∃k,z=.bl k /\
 (if k=true then tc σ H3 fun w' H4=>r' y w' H4 Q else Q (.bl false) H3)
theorem BE{op op':CmpOp}{r r':R2}(ho:OpR X (compareOp op) r)(ho':OpR X (compareOp op') r')(ha:PE X a ta)(hb:PE X b tb)(hc:PE X c tc)
  (hm:lastMarks [op,op'] [b,c]=false:=by with_unfolding_all rfl):PE X (.Compare a [op,op'] [b,c] pos) (BC r r' ta tb tc):=by
 intro uV s σ H Q I h;refine Compare_chain (thn (ha uV s σ H _ I h) fun v s1 ⟨x,H1,I1,r1,q1⟩=>chain_link (thn (hb uV s1 σ H1 _ I1 q1) fun u s2 ⟨y,H2,I2,r2,q2⟩=>thn (ho uV s2 σ H2 x y v u _ I2 r1 r2 q2) fun d s3 ⟨z,H3,I3,r3,k,e,q3⟩=>?_)) hm
 subst e;cases r3;refine wpAny_truthy_bool ?_;cases k with
 |false=>exact ite_ff ⟨.bl false,H3,I3,rfl,q3⟩
 |true=>exact ite_tt (chain_last (thn (hc uV s3 σ H3 _ I3 q3) fun w' s4 ⟨z',H4,I4,r4,q4⟩=>ho' uV s4 σ H4 y z' u w' Q I4 r2 r4 q4))
def K1(K:eg)(x:V)(H:Hp)(k:Bool):Prop:=
 match x with
 |.non=>k=false
 |.bl b=>k=b
 |.int i=>k=(i != 0)
 |.str y=>y.length<=sizeLine/\k=((y.length:Int) != 0)
 |.byt y=>y.size<=sizeLine/\k=((y.size:Int) != 0)
 |.ref p=>(∃xs,SqL K H p xs/\k=!xs.isEmpty)\/(∃xs,SqT K H p xs/\k=!xs.isEmpty)\/∃kvs,H p=some (.dK kvs)/\k=!kvs.isEmpty
 |_=>False
theorem wL{κ:Type}{kvs:List (κ×V)}{vs:List (κ×Value)}(r:KV kvs vs):(!vs.isEmpty)=!kvs.isEmpty:=by cases r<;>rfl
theorem mJ{xs:List V}{its:List Value}(r:Vals xs its):(!its.toArray.isEmpty)=!xs.isEmpty:=by cases r<;>simp
theorem mK:(sizeLine:Nat)<2 ^ 63:=by rw[sizeLine_eq];decide
theorem K2:RQ X (fun x H Q=>∃k,K1 X.K x H k/\Q k H):=by
 intro uV s σ H x v Q I rx h;obtain⟨k,e,q⟩:=h;have hl:=mK;have hs:sizeLine=16777216:=sizeLine_eq;cases x with
 |non=>cases rx;have e':k=false:=e;subst e';exact truthy_none ⟨H,I,q⟩
 |bl b=>cases rx;have e':k=b:=e;subst e';exact wpAny_truthy_bool ⟨H,I,q⟩
 |int i=>obtain⟨t,rfl⟩:=rx;have e':k=(i != 0):=e;subst e';exact PySem.P.truthy_int ⟨H,I,q⟩
 |str y=>obtain⟨t,rfl⟩:=rx;obtain⟨hy,e'⟩:y.length<=sizeLine/\k=((y.length:Int) != 0):=e;subst e';exact PySem.P.truthy_str (by lia) ⟨H,I.tok _,q⟩
 |byt y=>obtain⟨t,rfl⟩:=rx;obtain⟨hy,e'⟩:y.size<=sizeLine/\k=((y.size:Int) != 0):=e;subst e';exact PySem.W.truthy_bytes (by lia) ⟨H,I.tok _,q⟩
 |ref p=>
  cases rx;have e':(∃xs,SqL X.K H p xs/\k=!xs.isEmpty)\/(∃xs,SqT X.K H p xs/\k=!xs.isEmpty)\/∃kvs,H p=some (.dK kvs)/\k=!kvs.isEmpty:=e;rcases e' with⟨xs,hx,e'⟩ | ⟨xs,hx,e'⟩ | ⟨kvs,hx,e'⟩
  ·subst e';obtain⟨its,r,pl,hz⟩:=I.list hx;have xM:=r.length;exact wpAny_truthy_list pl.isList (by simp only[Sx];lia) ⟨H,I.tok _,by rw[mJ r];exact q⟩
  ·subst e';obtain⟨its,r,pl,hz⟩:=I.tuple hx;have xM:=r.length;exact truthy_tuple pl (by simp only[Sx];lia) ⟨H,I.tok _,by rw[mJ r];exact q⟩
  ·subst e';obtain⟨hz,hS,vs,r,m⟩:kvs.length<=sizeLine/\(p == sysModules)=false/\∃vs,KV kvs vs/\s.heap.DictOf (aY X.prog X.w) p vs:=I.hok p _ hx;have xM:kvs.length=vs.length:=Paired.length r;exact wpAny_truthy_dict hS m (by lia) ⟨H,I.tok _,by rw[wL r];exact q⟩
 |_=>exact(show False from e).elim
theorem BF(ha:PE X a ta)(he:∀whole,isTrue a X.env whole=(do let v <- whole;standAt a.pos;holding [v] (truthy v))) :
  PT X a (fun σ H Q=>ta σ H fun x H'=>∃k,K1 X.K x H' k/\Q k H'):=by
 intro uV s σ H Q I h;exact isTrue_plain (thn (ha uV s σ H _ I h) fun v s1 ⟨x,H1,I1,r1,q1⟩=>K2 uV s1 σ H1 x v Q I1 r1 q1) (he _)
theorem vals1{x:V}{us:List Value}(r:Vals [x] us):∃u,us=[u]/\RelV x u:=by
 cases r with
 |cons r1 r2=>cases r2;exact⟨_,rfl,r1⟩
theorem vals2{x y:V}{us:List Value}(r:Vals [x,y] us):∃u w',us=[u,w']/\RelV x u/\RelV y w':=by
 cases r with
 |cons r1 r2=>
  cases r2 with
  |cons r3 r4=>cases r4;exact⟨_,_,rfl,r1,r3⟩
theorem z6(hc:X.calm=true):cy X (.builtin "max") (fun xs H Q=>∃i j,xs=[.int i,.int j]/\Q (.int (if j>i then j else i)) H):=by
 intro uV s σ H xs us Q I r h;obtain⟨i,j,rfl,q⟩:=h;obtain⟨u,w',rfl,⟨t,rfl⟩,⟨t',rfl⟩⟩:=vals2 r;refine max_two_ints (I.ok.hd hc) fun h' tk k=>⟨_,H,I.kept k,?_,q⟩;by_cases hj:j>i
 ·rw[if_pos hj,if_pos hj];exact⟨_,rfl⟩
 ·rw[if_neg hj,if_neg hj];exact⟨_,rfl⟩
theorem z7(hc:X.calm=true):cy X (.builtin "min") (fun xs H Q=>∃i j,xs=[.int i,.int j]/\Q (.int (if j<i then j else i)) H):=by
 intro uV s σ H xs us Q I r h;obtain⟨i,j,rfl,q⟩:=h;obtain⟨u,w',rfl,⟨t,rfl⟩,⟨t',rfl⟩⟩:=vals2 r;refine min_two_ints (I.ok.hd hc) fun h' tk k=>⟨_,H,I.kept k,?_,q⟩;by_cases hj:j<i
 ·rw[if_pos hj,if_pos hj];exact⟨_,rfl⟩
 ·rw[if_neg hj,if_neg hj];exact⟨_,rfl⟩
theorem z8:cy X (.type "int") (fun xs H Q=>(∃i,xs=[.int i]/\Q (.int i) H)\/∃k,xs=[.bl k]/\Q (.int (if k then 1 else 0)) H):=by
 intro uV s σ H xs us Q I r h;rcases h with⟨i,rfl,q⟩ | ⟨k,rfl,q⟩
 ·obtain⟨u,rfl,t,rfl⟩:=vals1 r;exact call_int_int ⟨.int i,H,I,⟨_,rfl⟩,q⟩
 ·obtain⟨u,rfl,r1⟩:=vals1 r;cases r1;exact call_int_bool ⟨.int (if k then 1 else 0),H,I.tok _,⟨_,rfl⟩,q⟩
end
section
variable{mA:Str->Option Value}{h:Heap}
structure K3(h:Heap)(x dx C:Addr)(mA:Str->Option Value):Prop where
 obj:h.get? x=some (WQ C dx)
 ns:h.Ns1 dx mA
 ne:dx≠x
theorem z_{dx:Addr}(n:h.Ns1 dx mA):∃od,h.get? dx=some od/\∀name,W4 name od=some (mA name):=by
 obtain⟨o,es,ep,ho,hd,hk,_,hm⟩:=n;refine⟨o,ho,fun name=>?_⟩;have e:=hm name;unfold nsFind findBy at e;rw[<- Wv]at e;unfold W4;rw[hd];dsimp only;split
 ·rename_i y q;rw[q]at e;exact congrArg some e
 ·rename_i q;rw[q]at e;have a:es.toList.any (·.refKey)=false:=by
   rw[List.any_eq_false];intro y hy;obtain⟨z,t,hkey⟩:=hk y (Array.mem_toList_iff.mp hy);simp[DictEntry.refKey,hkey]
  have a':¬es.toList.any (·.refKey)=true:=by rw[a];exact Ua
  rw[if_neg a'];exact congrArg some e
theorem K3.look{x dx C:Addr}(I:K3 h x dx C mA):∃od,PySem.W.InstAt h x (WQ C dx) C (some od)/\∀name,W4 name od=some (mA name):=
 let ⟨od,ho,hl⟩:=z_ I.ns
 ⟨od,⟨I.obj,rfl,rfl,ho⟩,hl⟩
theorem jx.some_of{v:V}{o:Option Value}(r:jx (some v) o):∃u,o=some u/\RelV v u:=by
 cases o with
 |none=>exact(show False from r).elim
 |some u=>exact⟨u,rfl,r⟩
end
section
variable{P:Program}{w:World}{H H':Hp}{h h':Heap}{a C dx:Addr}{fs fs':List (Str×V)}
theorem FY(hok:HOk P w H h)(e:H a=some (.ins C dx fs)):∃mA,K3 h a dx C mA/\(∀f,jx (fs.lookup f) (mA f))/\PySem.Within mA (fs.map (·.1))/\fs.length<=1000/\H dx=some (.own a):=by
 obtain⟨d,z,ne,ob,mA,n,r,q⟩:=(show aR P w H h a (.ins C dx fs) from hok a _ e)
 exact⟨mA,⟨ob,n,ne⟩,r,q,z,d⟩
end
structure Cls(K:eg)(C:Addr):Prop where
 pg:PySem.W.plainGet K C Str.empty=true
 hd:PySem.W.hasDictIn K C=true
 po:PySem.W.plainOver K C=true
 sa:VR K (.ref C) "__setattr__" = some (some (.builtin "object.__setattr__"))
theorem Cls.get{K:eg}{C:Addr}(c:Cls K C)(f:Str):PySem.W.plainGet K C f=true:=c.pg
section
variable{X:Cx}{uV:List (Addr×Obj)}{σ:St}{H:Hp}{s:Shared}{A:Around}{E:Value->Shared->Prop}{Q:Value->Shared->Prop}{c:Value}{b:Bool}
inductive jE(K:eg)(H:Hp):V->Value->Prop where
 |non:jE K H .non (.type "NoneType")
 |bl (x:Bool):jE K H (.bl x) (.type "bool")
 |int (i:Int):jE K H (.int i) (.type "int")
 |str (x:Str):jE K H (.str x) (.type "str")
 |flt (x:UInt64):jE K H (.flt x) (.type "float")
 |lst {a:Addr} {xs:List V} (e:H a=some (.lst xs)):jE K H (.ref a) (.type "list")
 |frz {a:Addr} {o:Obj} {xs:List V} (e:H a=some (.frz o (.lst xs))):jE K H (.ref a) (.type "list")
 |tup {a:Addr} {xs:List V} (e:H a=some (.tup xs)):jE K H (.ref a) (.type "tuple")
 |dK {a:Addr} {kvs:List (Key×V)} (e:H a=some (.dK kvs)):jE K H (.ref a) (.type "dict")
 |dT {a:Addr} {kvs:List (List Key×V)} (e:H a=some (.dT kvs)):jE K H (.ref a) (.type "dict")
 |ins {a C dx:Addr} {fs:List (Str×V)} (e:H a=some (.ins C dx fs)) (cl:Cls K C) (ha:VR K (.ref C) "__class__" = some (some (.builtin "object.__class__")))
   (hn:PySem.W.specialIn K (.builtin "object.__class__") "__get__" = some (some (.builtin "getset_descriptor.__get__"))) (htk:PySem.W.takesIn K (.builtin "object.__class__")=some true)
   (hm:V3 K C (.type "object")=some true):jE K H (.ref a) (.ref C)
theorem Aa{x:V}{u t:Value}(I:Inv X uV σ H s)(rx:RelV x u)(ty:jE X.K H x t)(e:UR X.K t c=some b)(h:∀tk,Q (.bool b) { s with toks:=tk }) :
  wpAny (model X.prog X.w) A (call (.builtin "isinstance") [u,c]) Q E s:=by
 cases ty with
 |non=>cases (show u=Value.none from rx);exact Uv PySem.W.kitx_none I.kIn U1 e (fun z=>nomatch z) h
 |bl y=>cases (show u=Xg y from rx);exact Uv PySem.W.kitx_bool I.kIn U1 e (fun z=>nomatch z) h
 |int i=>obtain⟨t,q⟩:=(show ∃t,u=Value.int i t from rx);cases q;exact Uv PySem.W.kitx_int I.kIn U1 e (fun z=>nomatch z) h
 |str y=>obtain⟨t,q⟩:=(show ∃t,u=WO y t from rx);cases q;exact Uv PySem.W.kitx_str I.kIn U1 e (fun z=>nomatch z) h
 |flt y=>obtain⟨t,q⟩:=(show ∃t,u=Value.float y t from rx);cases q;exact Uv PySem.W.kitx_float I.kIn U1 e (fun z=>nomatch z) h
 |@lst a xs ea=>
  cases (show u=TZ a from rx);obtain⟨_,_,n,_,h1⟩:=(show aR X.prog X.w H s.heap a (.lst xs) from I.hok a _ ea)
  exact Uv PySem.W.kitx_list I.kIn ⟨_,h1,rfl⟩ e (fun z=>nomatch z) h
 |@frz a ob xs ea=>
  cases (show u=TZ a from rx);obtain⟨_,_,_,n,_,h1⟩:=(show aR X.prog X.w H s.heap a (.frz ob (.lst xs)) from I.hok a _ ea)
  exact Uv PySem.W.kitx_list I.kIn ⟨_,h1,rfl⟩ e (fun z=>nomatch z) h
 |@tup a xs ea=>
  cases (show u=TZ a from rx);obtain⟨_,_,_,p⟩:=(show aR X.prog X.w H s.heap a (.tup xs) from I.hok a _ ea)
  obtain⟨o,h1,h2,_⟩:=p;exact Uv PySem.W.kitx_tuple I.kIn ⟨o,h1,h2⟩ e (fun z=>nomatch z) h
 |@dK a kvs ea=>
  cases (show u=TZ a from rx);obtain⟨_,_,vs,_,p⟩:=(show aR X.prog X.w H s.heap a (.dK kvs) from I.hok a _ ea)
  obtain⟨o,es,ep,h1,h2,_⟩:=p;exact Uv PySem.W.kitx_dict I.kIn ⟨o,h1,h2.1⟩ e (fun z=>nomatch z) h
 |@dT a kvs ea=>
  cases (show u=TZ a from rx);obtain⟨_,_,xs,_,o,es,ep,h1,h2,_⟩:=(show aR X.prog X.w H s.heap a (.dT kvs) from I.hok a _ ea)
  exact Uv PySem.W.kitx_dict I.kIn ⟨o,h1,h2.1⟩ e (fun z=>nomatch z) h
 |@ins a C dx fs ea cl ha hn htk hm=>cases (show u=TZ a from rx);obtain⟨mA,O,_⟩:=FY I.hok ea;obtain⟨od,J,_⟩:=O.look;exact Uv (PySem.W.kitx_own (cl.get _) cl.hd ha hn htk hm) I.kIn J e (fun z=>nomatch z) h
end
section
variable{A:Around}{k:Nat}
structure aT(k:Nat)(A:Around):Prop where
 hd:A.handled=none
 dp:A.depth+3*k+5<recursionLimit
 un:A.units+16*k+200<cLine
 gd:A.guards=some []
theorem aT.mono{j k:Nat}(r:aT k A)(h:j<=k):aT j A:=⟨r.hd,by have:=r.dp;lia,by have:=r.un;lia,r.gd⟩
theorem aT.deeper(r:aT (k+1) A)(env:Env):aT k (A.deeper env):=
 ⟨r.hd,by have:=r.dp;show A.depth+1+3*k+5<_;lia,by have:=r.un;show A.units+3+16*k+200<_;lia,r.gd⟩
theorem aT.in1(r:aT (k+1) A):aT k A.in1:=
 ⟨r.hd,by have:=r.dp;show A.depth+3*k+5<_;lia,by have:=r.un;show A.units+1+16*k+200<_;lia,r.gd⟩
theorem aT.depth(r:aT k A):A.depth<recursionLimit:=by have:=r.dp;lia
theorem aT.units(r:aT k A):A.units+64<cLine:=by have:=r.un;lia
theorem aT.K4(r:aT k A):A.units<cLine:=by have:=r.un;lia
def rE:TA:=fun _ H Q=>Q [] H
def gJ(ta:TE)(tr:TA):TA:=fun σ H Q=>ta σ H fun x H1=>tr σ H1 fun xs H2=>Q (x::xs) H2
end
section
variable{X:Cx}{e:Expr}{es:List Expr}{te:TE}{t:TA}{pos:Pos}
theorem eY:PA X [] rE:=fun _ _ _ _ H Q I h=>U5 ⟨[],H,I,.nil,h⟩
theorem cg(ha:PE X e te)(hr:PA X es t)(hs:starEach (e::es) X.env=(false,eval e X.env)::starEach es X.env:=by rfl):PA X (e::es) (gJ te t):=by intro pos uV s σ H Q I h;rw[hs];show wpAny _ _ (spliced ((false,eval e X.env)::backTo pos (starEach es X.env))) _ _ s;refine Ww (thn (ha uV s σ H _ I h) fun u s1 ⟨x,H1,I1,r1,q1⟩=>?_);exact thn (hr pos uV s1 σ H1 _ I1 q1) fun us s2 ⟨xs,H2,I2,r2,q2⟩=>⟨x::xs,H2,I2,.cons r1 r2,q2⟩
def K5(t:TA):TE:=fun σ H Q=>t σ H fun xs H1=>xs.length<=sizeLine/\∀p,H1 p=none->Q (.ref p) (upd H1 p (.tup xs))
def FZ(t:TA):TE:=fun σ H Q=>t σ H fun xs H1=>xs.length<=sizeLine/\∀p,H1 p=none->Q (.ref p) (upd H1 p (.lst xs))
theorem BG{x1}(h:PA X es t):PE X (.Tuple es x1 pos) (K5 t):=by intro uV s σ H Q I hq;refine wpAny_Tuple_spliced (thn (h pos uV s σ H _ I hq) fun us s1 ⟨xs,H1,I1,r,z,q⟩=>⟨by rw[<- r.length];exact z,?_⟩);have hf:H1 s1.heap.objs.size=none:=I1.hok.fresh (Nat.le_refl _);refine⟨.ref s1.heap.objs.size,upd H1 s1.heap.objs.size (.tup xs),I1.laid (t':=s1.toks) (fun b u e=>gV _ e) (Nat.le_refl _) ?_,rfl,q _ hf⟩;exact⟨z,us,r,⟨_,TQ _ rfl,rfl,_,rfl⟩⟩
theorem BH(h:PA X es t):PE X (.List es pos) (FZ t):=by intro uV s σ H Q I hq;refine wpAny_List_spliced (thn (h pos uV s σ H _ I hq) fun us s1 ⟨xs,H1,I1,r,z,q⟩=>⟨by rw[<- r.length];exact z,?_⟩);have hf:H1 s1.heap.objs.size=none:=I1.hok.fresh (Nat.le_refl _);refine⟨.ref s1.heap.objs.size,upd H1 s1.heap.objs.size (.lst xs),I1.laid (t':=s1.toks) (fun b u e=>gV _ e) (Nat.le_refl _) ?_,rfl,q _ hf⟩;exact⟨z,us,0,r,TQ _ rfl⟩
end
noncomputable abbrev Sp:=List V->Hp->VK->XK->Prop
noncomputable abbrev CXT:=List Env->Hp->Shared->XK->Value->Shared->Prop
structure tT(P:Program)(w:World)(K:eg)(mg:Str->Option Value)(base:Heap)(A:Around)(outer:List Env)(s:Shared)(H:Hp):Prop where
 frames:A.frames=some outer
 mod:Mod K mg base
 bs:∀b o,base.get? b=some o->s.heap.get? b=some o/\H b=none
 bsz:base.objs.size<=s.heap.objs.size
 ko:s.heap.FunFrames base outer
 frf:∀b∈frs outer,H b=none
 hok:HOk P w H s.heap
 bare:AllBare s.gens
def CE(outer:List Env)(P:Program)(w:World)(H:Hp)(s:Shared)(Q:VK)(u:Value)(s':Shared):Prop:=
 ∃v H',s'.os=s.os/\AllBare s'.gens/\Un (frs outer) [] H H' s.heap s'.heap/\HOk P w H' s'.heap/\RelV v u/\Q v H'
def CR(CX:CXT)(outer:List Env)(P:Program)(w:World)(H:Hp)(s:Shared)(Q:VK)(E:XK)(r:Result)(s':Shared):Prop:=
 match r with
 |.ok (.ret u)=>CE outer P w H s Q u s'
 |.ok _=>False
 |.error e=>CX outer H s E e s'
structure aK(P:Program)(w:World)(K:eg)(mg:Str->Option Value)(base:Heap)(CX:CXT)(k:Nat)(f:Addr)(fd:FuncData)(ps:List Str)(sp:Sp):Prop where
 len:∀vs H Q E,sp vs H Q E->vs.length=ps.length
 run:∀(A:Around) (outer:List Env) (s:Shared) (H:Hp) (args:Args) (us:List Value) (vs:List V) (Q:VK) (E:XK),aT k A->tT P w K mg base A outer s H->BindsTo s fd args (ps.zip us)->Vals vs us->sp vs H Q E ->
  codeAny (model P w) A (.call (.ref f) args) (CR CX outer P w H s Q E) s
theorem tT.in1{P:Program}{w:World}{K:eg}{mg:Str->Option Value}{base:Heap}{A:Around}{outer:List Env}{s:Shared}{H:Hp}(e:tT P w K mg base A outer s H) :
  tT P w K mg base A.in1 outer s H:=⟨e.frames,e.mod,e.bs,e.bsz,e.ko,e.frf,e.hok,e.bare⟩
section
variable{X:Cx}{uV:List (Addr×Obj)}{σ:St}{H:Hp}{s s':Shared}
theorem Inv.F0(I:Inv X uV σ H s):tT X.prog X.w X.K X.mg X.base X.A X.stack s H:=
 ⟨I.ok.frames,I.ok.mod,I.bs,Nat.le_trans I.ok.bsz I.sz,I.stack,I.rq,I.hok,I.bare⟩
theorem Inv.after{Q:VK}{u:Value}(I:Inv X uV σ H s)(h:CE X.stack X.prog X.w H s Q u s'):EP X uV σ Q u s':=by obtain⟨v,H',os,bare,un,hok,r,q⟩:=h;obtain⟨hh,g,d,t,os'⟩:=s';obtain rfl:os'=s.os:=os;exact⟨v,H',I.call (h':=hh) (g':=g) (d':=d) (t':=t) (ch:=[]) un hok bare (fun b z=>absurd z (by simp)),r,q⟩
end
def qe(sp:Sp)(dvs:List V)(E:XK)(t:TA):TE:=fun σ H Q=>t σ H fun vs H1=>sp (vs++dvs) H1 Q E
def Binds(K:eg)(fd:FuncData)(ps:List Str)(ds:List Value):Prop:=
 ∀(s:Shared) (us:List Value),K.In s.heap->(us++ds).length=ps.length->BindsTo s fd ⟨us,[]⟩ (ps.zip (us++ds))
theorem Binds.all{K:eg}{fd:FuncData}{ps:List Str}(h:∀us:List Value,us.length=ps.length->bindArgs fd ⟨us,[]⟩=pure (ps.zip us)):Binds K fd ps []:=fun s us _ hl=>by rw[Uc]at hl ⊢;exact .of_eq (h us hl)
def Passes(CX:CXT)(X:Cx)(E:XK):Prop:=∀(uV:List (Addr×Obj)) (σ:St) (H:Hp) (s:Shared) (e:Value) (s':Shared),Inv X uV σ H s->CX X.stack H s E e s'->X.xe e s'
section
variable{X:Cx}{CX:CXT}{k:Nat}{f C:Addr}{fd:FuncData}{ps:List Str}{sp:Sp}{dvs:List V}{ds:List Value}{E:XK}{x m:Str}{p pos Qp:Pos}{e o:Expr}{es:List Expr}{ta:TE}{t:TA}
theorem K6{uV:List (Addr×Obj)}{σ:St}{H:Hp}{s:Shared}{Q:VK}{us:List Value}{vs:List V}(F:aK X.prog X.w X.K X.mg X.base CX k f fd ps sp)(hr:aT k X.A)(hb:Binds X.K fd ps ds)(hd:Vals dvs ds)(hx:Passes CX X E)
  (I:Inv X uV σ H s) (r:Vals vs us) (h:sp (vs++dvs) H Q E):wpAny (model X.prog X.w) X.A (call (.ref f) us) (EP X uV σ Q) X.xe s:=by
 have r2:Vals (vs++dvs) (us++ds):=r.append hd;have hl:(us++ds).length=ps.length:=by rw[<- r2.length];exact F.len _ _ _ _ h
 refine wpAny_call (codeAny_mono (F.run X.A X.stack s H ⟨us,[]⟩ (us++ds) (vs++dvs) Q E hr I.F0 (hb s us I.kIn hl) r2 h) fun r s' hq=>?_);cases r with
 |error e=>exact hx uV σ H s e s' I hq
 |ok fl=>
  cases fl with
  |ret u=>exact I.after hq
  |next=>exact TF hq
  |brk=>exact TF hq
  |cont=>exact TF hq
theorem gw(F:aK X.prog X.w X.K X.mg X.base CX k f fd ps sp)(hr:aT k X.A)(hg:Gl X x)(hm:X.mg x=some (.ref f))(hk:Ul X.K (.ref f)=true)(hb:Binds X.K fd ps ds)(hd:Vals dvs ds)(hx:Passes CX X E)
  (ha:PA X (e::es) t) (MO:(x == ("__debug__" : Str))=false:=by decide) (he:starEach (e::es) X.env=(false,eval e X.env)::starEach es X.env:=by rfl) (Dy:(backTo pos (starEach es X.env)).any (·.1)=false:=by rfl) :
  PE X (.Call (.Name x p) (e::es) [] pos) (qe sp dvs E t):=by
 intro uV s σ H Q I h;refine wpAny_Call_Name_kw (gv I hg hm ?_ MO);refine Wx (h₀:=X.base) I.ok.mod.kin hk (thn (ha pos uV s σ H _ I h) fun us s1 ⟨vs,H1,I1,r,q⟩=>⟨I1.kIn,?_⟩) he Dy;exact K6 F hr hb hd hx I1 r q
end
section
variable{x:Str}{v:Value}
structure au(N P:List Str)(sc:Scope):Prop where
 kind:sc.kind=.function
 co:sc.isCoroutine=false
 gen:sc.isGenerator=false
 nd:N.Nodup
 pre:N.take P.length=P
 par:∀x∈P,sc.names.lookup x=some .local\/sc.names.lookup x=some .cell
 K7:∀y∈sc.names,y.2≠.free
theorem qf{kindOf:Str->Option NameKind}:∀{binds:List (Str×Value)} {m:Str->Option Value},(∀v,(x,v)∉binds)->bindL kindOf binds m x=m x
 |[],_,_=>rfl
 |(n,v)::r,m,h=>by
  unfold bindL;rw[qf fun w hw=>h w (Tq _ hw)];split
  ·have:x≠n:=by rintro rfl;exact h v To
   simp[this]
  ·rfl
theorem qg{kindOf:Str->Option NameKind}:∀{binds:List (Str×Value)} {m:Str->Option Value},(∀v,(x,v)∉binds)->bindC kindOf binds m x=m x
 |[],_,_=>rfl
 |(n,v)::r,m,h=>by
  unfold bindC;rw[qg fun w hw=>h w (Tq _ hw)];split
  ·rfl
  ·have:x≠n:=by rintro rfl;exact h v To
   simp[this]
theorem qh{kindOf:Str->Option NameKind}:∀{P:List Str} {vs:List Value} {i:Nat} {m:Str->Option Value},P.Nodup->P[i]?=some x->vs[i]?=some v->kindOf x=some .local ->
  bindL kindOf (P.zip vs) m x=some v
 |[],_,_,_,_,h,_,_=>by simp at h
 |_::_,[],_,_,_,_,h,_=>by simp at h
 |p::P,w::vs,0,m,nd,h1,h2,hk=>by simp at h1 h2;subst h1;subst h2;show bindL kindOf ((p,w)::P.zip vs) m p=_;unfold bindL;rw[qf fun v hv=>(UB.mp nd).1 (Vh hv).1,if_pos hk];simp
 |p::P,w::vs,i+1,m,nd,h1,h2,hk=>by show bindL kindOf ((p,w)::P.zip vs) m x=_;unfold bindL;exact qh (i:=i) (UB.mp nd).2 (by simpa using h1) (by simpa using h2) hk
theorem qi{kindOf:Str->Option NameKind}:∀{P:List Str} {vs:List Value} {i:Nat} {m:Str->Option Value},P.Nodup->P[i]?=some x->vs[i]?=some v->kindOf x≠some .local ->
  bindC kindOf (P.zip vs) m x=some v
 |[],_,_,_,_,h,_,_=>by simp at h
 |_::_,[],_,_,_,_,h,_=>by simp at h
 |p::P,w::vs,0,m,nd,h1,h2,hk=>by simp at h1 h2;subst h1;subst h2;show bindC kindOf ((p,w)::P.zip vs) m p=_;unfold bindC;rw[qg fun v hv=>(UB.mp nd).1 (Vh hv).1,if_neg hk];simp
 |p::P,w::vs,i+1,m,nd,h1,h2,hk=>by show bindC kindOf ((p,w)::P.zip vs) m x=_;unfold bindC;exact qi (i:=i) (UB.mp nd).2 (by simpa using h1) (by simpa using h2) hk
noncomputable def start(N:List Str)(vs:List V):St:=vs.map some++Dk (N.length-vs.length) none
noncomputable def dc(CX:CXT)(P:Program)(w:World)(K:eg)(mg:Str->Option Value)(base:Heap)(N:List Str)(qual:Str)(scope:Scope)(f:Addr)(cd:Value)(A:Around)(outer:List Env)(s:Shared)(H:Hp)(E:XK):Cx where
 prog:=P
 w:=w
 K:=K
 mg:=mg
 base:=base
 A:=A.deeper (envOfC qual scope s.heap.objs.size f cd)
 N:=N
 s₀:=s
 H₀:=H
 env:=envOfC qual scope s.heap.objs.size f cd
 outer:=outer
 stack:=envOfC qual scope s.heap.objs.size f cd::outer
 ex:=[]
 calm:=true
 fn:=fun _=>true
 pn:=[]
 xe:=fun e s'=>wpAny (model P w) (A.deeper (envOfC qual scope s.heap.objs.size f cd)) (leaving (envOfC qual scope s.heap.objs.size f cd) e) (fun _ s''=>CX outer H s E e s'') (fun e' s''=>CX outer H s E e' s'') s'
theorem tU{sc:Scope}{n:Nat}(h:sc.names.lookup x=some .cell):∃c,(cellsFrom n sc.names []).lookup x=some c:=by have q:=VY sc.names n [] (.inl h);exact Uj.mp q
theorem qj{CX:CXT}{P:Program}{w:World}{K:eg}{mg:Str->Option Value}{base:Heap}{N ps:List Str}{qual:Str}{scope:Scope}{f:Addr}{cd:Value}{A:Around}{outer:List Env}{s s1:Shared}{H:Hp}{E:XK}{us:List Value}{vs:List V}
  (S:au N ps scope) (hd:A.handled=none) (e0:tT P w K mg base A outer s H) (hl:vs.length=ps.length) (r:Vals vs us)
  (x:InCallC s s.heap.objs.size (bindL (envOfC qual scope s.heap.objs.size f cd).kindOf (ps.zip us) fun _=>none) (cellsFrom (s.heap.objs.size+1) scope.names []) (bindC (envOfC qual scope s.heap.objs.size f cd).kindOf (ps.zip us) fun _=>none) s1) :
  Inv (dc CX P w K mg base N qual scope f cd A outer s H E) [] (start N vs) H s1:=by
 have Dy:ps.length<=N.length:=by have:=congrArg List.length S.pre;rw[UD]at this;lia
 obtain⟨h1,tk,rfl,hk⟩:=x.done;have noA:∀b:Addr,b∉(dc CX P w K mg base N qual scope f cd A outer s H E).ex:=fun b z=>absurd (show b∈([]:List Addr) from z) (by simp);refine ⟨⟨e0.mod,S.kind,rfl,rfl,Nat.le_refl _,fun y z c h1 h2=>?_,fun y hy=>?_,fun y c _ h=>?_,fun _=>hd,Around.frames_deeper e0.frames,.inr ⟨rfl,rfl⟩,fun b z=>absurd z (noA b),e0.bs,e0.bsz,fun b _ _=>noA b,fun b z=>absurd z (noA b),e0.ko,e0.frf⟩,
  rfl,e0.bare,Un.kept hk,⟨_,x.toInCall.ns,fun i y v h1 h2 h3=>?_⟩,fun y c h=>⟨_,x.cell y c h⟩,e0.hok.fresh (Nat.le_refl _),fun y c h=>?_,fun p hp=>absurd (show p∈([]:List (Addr×Obj)) from hp) (by simp),e0.hok.kept hk,?_⟩
 ·exact name_of_addr x.apart (PySem.mem_of_lookup h1) (PySem.mem_of_lookup h2)
 ·have hy:scope.names.lookup y=some .cell\/scope.names.lookup y=some .free:=hy;rcases hy with hy | hy
  ·exact tU hy
  ·exact absurd rfl (S.K7 _ (PySem.mem_of_lookup hy))
 ·exact VM (x.above y c (PySem.mem_of_lookup h))
 ·have hi:i<vs.length:=by
   unfold start at h2;by_cases hi:i<vs.length
   ·exact hi
   ·rw[Tt (by simpa using hi)]at h2;rw[Ui]at h2;split at h2<;>cases h2
  have ha:vs[i]?=some v:=by
   unfold start at h2;rw[Tr (by simpa using hi),TM]at h2;cases e:vs[i]? with
   |none=>rw[e]at h2;cases h2
   |some a=>rw[e]at h2;cases h2;rfl
  obtain⟨u,hu,rv⟩:=r.get ha;have hp:ps[i]?=some y:=by rw[<- S.pre,U3 (by lia)];exact h1
  have ndP:ps.Nodup:=by rw[<- S.pre];exact S.nd.sublist (List.take_sublist _ _)
  refine⟨u,rv,?_⟩;rcases S.par y (Vo hp) with k | k
  ·exact .inl ⟨k,qh ndP hp hu k⟩
  ·obtain⟨c,e⟩:=tU (n:=s.heap.objs.size+1) k;refine .inr ⟨.inl k,c,e,?_⟩;have q:=x.cell y c e;rw[qi ndP hp hu (by show scope.names.lookup y≠_;rw[k];decide)]at q;exact q
 ·exact e0.hok.fresh (VM (x.above y c (PySem.mem_of_lookup h)))
 ·unfold start;show _=N.length;rw[Tz,Dp,Vi]
  lia
theorem tW{CX:CXT}{P:Program}{w:World}{K:eg}{mg:Str->Option Value}{base:Heap}{k:Nat}{f:Addr}{name qual:Str}{params:Arguments}{body:List Stmt}{scope:Scope}{dV kV doc pm cdv ct oc:Value}{an od:Option Addr}
  {osl:Array (Option Value)} {N ps:List Str} {sp:Sp} (lk:K.lookup f=some ⟨oc,od,.func (TX name qual params body scope dV kV doc pm an cdv ct),osl⟩) (MZ:Va K cdv qual=true) (S:au N ps scope)
  (len:∀vs H Q E,sp vs H Q E->vs.length=ps.length)
  (hbody:∀ (A:Around) (outer:List Env) (s:Shared) (H:Hp) (vs:List V) (Q:VK) (E:XK),aT k (A.deeper (envOfC qual scope s.heap.objs.size f cdv))→sp vs H Q E →
   ∃t,PSs (dc CX P w K mg base N qual scope f cdv A outer s H E) body t/\t { nx:=fun _ H'=>Q .non H',rt:=Q } (start N vs) H) :
  aK P w K mg base CX (k+1) f (TX name qual params body scope dV kV doc pm an cdv ct) ps sp:=by
 refine⟨len,fun A outer s H args us vs Q E hr e0 hb r hsp=>?_⟩;have hl:=len _ _ _ _ hsp;have KX:K.In s.heap:=e0.mod.kin.keeps fun b o e=>(e0.bs b o e).1;have lim:s.heap.NoLimit:=e0.mod.nolimit.keeps fun b o e=>(e0.bs b o e).1;have hkind:∀y∈ps.zip us,scope.names.lookup y.1=some .local\/(scope.names.lookup y.1=some .cell/\((cellsFrom (s.heap.objs.size+1) scope.names []).lookup y.1).isSome=true):=fun⟨n,v⟩ hy=>by
  rcases S.par n (Vh hy).1 with q | q
  ·exact .inl q
  ·exact .inr ⟨q,VY _ _ _ (.inl q)⟩
 refine codeAny_call_function hr.depth (KX _ _ lk) rfl S.co S.gen rfl (PySem.W.codeRec_of KX MZ) (hb _ _ _ _ ?_);refine wpAny_newFunctionEnv_cells S.kind hkind fun env he s1 x=>?_;subst he;refine⟨lim.keeps x.toInCall.keep,codeAny_func ?_⟩;obtain⟨t,ht,hq⟩:=hbody A outer s H vs Q E (hr.deeper _) hsp;have I:Inv (dc CX P w K mg base N qual scope f cdv A outer s H E) [] (start N vs) H s1:=qj S hr.hd e0 hl r x;refine wpAny_mono (ht [] s1 (start N vs) H _ I hq) (fun fl s' hs=>?_) fun e s' hs=>hs;have HB:∀{σ':St} {H':Hp} {v:V} {u:Value},Inv (dc CX P w K mg base N qual scope f cdv A outer s H E) [] σ' H' s'->RelV v u->Q v H'->CE outer P w H s Q u s':=
  fun {σ' H' v u} J rv q=>⟨v,H',J.os,J.bare,J.base,J.hok,rv,q⟩
 cases fl with
 |ret u=>obtain⟨v,σ',H',J,rv,q⟩:=hs;exact HB J rv q
 |next=>obtain⟨σ',H',J,q⟩:=hs;exact HB (v:=V.non) (u:=Value.none) J rfl q
 |brk=>obtain⟨_,_,_,q⟩:=hs;exact TF q
 |cont=>obtain⟨_,_,_,q⟩:=hs;exact TF q
end
section
variable{X:Cx}{x:Str}{p pos:Pos}{e:Expr}{es:List Expr}{t:TA}{id T:String}{r:List V->Hp->VK->Prop}
def tCB(r:List V->Hp->VK->Prop)(t:TA):TE:=fun σ H Q=>t σ H fun vs H1=>r vs H1 Q
theorem eG(hc:cy X (.builtin id) r)(hg:Gl X x)(hm:X.mg x=none)(hv:bootBuiltins x=some (.builtin id))(ha:PA X (e::es) t)(hn:x ≠ "__name__" := by decide)(MO:(x == ("__debug__" : Str))=false:=by decide)
  (he:starEach (e::es) X.env=(false,eval e X.env)::starEach es X.env:=by rfl) (Dy:(backTo pos (starEach es X.env)).any (·.1)=false:=by rfl):PE X (.Call (.Name x p) (e::es) [] pos) (tCB r t):=by
 intro uV s σ H Q I h;refine wpAny_Call_Name_kw (cN I hg hm hv ?_ hn MO);exact PyProof.Rows.callWith_builtin1 (thn (ha pos uV s σ H _ I h) fun us s1 ⟨vs,H1,I1,r1,q1⟩=>hc uV s1 σ H1 vs us Q I1 r1 q1) he Dy
theorem qk(hc:cy X (.type T) r)(hg:Gl X x)(hm:X.mg x=none)(hv:bootBuiltins x=some (.type T))(ha:PA X (e::es) t)(hn:x ≠ "__name__" := by decide)(MO:(x == ("__debug__" : Str))=false:=by decide)
  (he:starEach (e::es) X.env=(false,eval e X.env)::starEach es X.env:=by rfl) (Dy:(backTo pos (starEach es X.env)).any (·.1)=false:=by rfl):PE X (.Call (.Name x p) (e::es) [] pos) (tCB r t):=by
 intro uV s σ H Q I h;refine wpAny_Call_Name_kw (cN I hg hm hv ?_ hn MO);exact Ub (thn (ha pos uV s σ H _ I h) fun us s1 ⟨vs,H1,I1,r1,q1⟩=>hc uV s1 σ H1 vs us Q I1 r1 q1) he Dy
end
end L2
namespace HT
open PySem PyProof.Rows
section
variable{prog:Program}{w:World}{A:Around}{E:Value->Shared->Prop}{s:Shared}
noncomputable def sIx(n d:Nat):Option Int->Nat
 |none=>d
 |some v=>if v<0 then (v+(n:Int)).toNat else min v.toNat n
end
end HT
namespace L2
open PySem PySem.Spec PyProof.Rows
noncomputable abbrev TO:=St->Hp->(Option Int->Hp->Prop)->Prop
def PO(X:Cx)(e:Option Expr)(t:TO):Prop:=
 ∀(uV:List (Addr×Obj)) (s:Shared) (σ:St) (H:Hp) (Q:Option Int->Hp->Prop),Inv X uV σ H s->t σ H Q ->
  wpAny (model X.prog X.w) X.A (evalPart e X.env) (fun u s'=>∃o H',Inv X uV σ H' s'/\IsPart u o/\Q o H') X.xe s
def rF:TO:=fun _ H Q=>Q none H
def BI(t:TE):TO:=fun σ H Q=>t σ H fun x H1=>∃i,x=.int i/\Q (some i) H1
section
variable{X:Cx}{e:Expr}{te:TE}{lo hi:Option Expr}{tl th:TO}{pos p2:Pos}
theorem F1:PO X none rF:=by intro uV s σ H Q I h;rw[evalPart_none];exact wpAny_pure ⟨none,H,I,.none,h⟩
theorem F2(h:PE X e te):PO X (some e) (BI te):=by intro uV s σ H Q I hw;rw[evalPart_some];refine thn (h uV s σ H _ I hw) fun u s1 ⟨x,H1,I1,r1,q1⟩=>?_;obtain⟨i,rfl,q⟩:=q1;obtain⟨t,rfl⟩:=r1;exact⟨some i,H1,I1,.int i t,q⟩
def SlR(X:Cx)(r:V->Option Int->Option Int->Hp->VK->Prop):Prop:=
 ∀(uV:List (Addr×Obj)) (s:Shared) (σ:St) (H:Hp) (x:V) (v vl vu:Value) (lo hi:Option Int) (sl:Addr) (Q:VK),Inv X uV σ H s->RelV x v->s.heap.IsSliceOf sl vl vu .none->IsPart vl lo->IsPart vu hi->r x lo hi H Q ->
  ∃T id,typeLookup (.type T) "__getitem__" = pure (some (.builtin id))/\s.TypeIs v T/\wpAny (model X.prog X.w) X.A (getItem v (.ref sl)) (EP X uV σ Q) X.xe s
def tSl(r:V->Option Int->Option Int->Hp->VK->Prop)(te:TE)(tl th:TO):TE:=fun σ H Q=>te σ H fun x H1=>tl σ H1 fun l H2=>th σ H2 fun u H3=>r x l u H3 Q
theorem BJ{r:V->Option Int->Option Int->Hp->VK->Prop}(hr:SlR X r)(he:PE X e te)(hl:PO X lo tl)(hu:PO X hi th):PE X (.Subscript e (.Slice lo hi none p2) pos) (tSl r te tl th):=by intro uV s σ H Q I h;refine Subscript_ (thn (he uV s σ H _ I h) fun v s1 ⟨x,H1,I1,r1,q1⟩=>?_);refine wpAny_Slice (thn (hl uV s1 σ H1 _ I1 q1) fun vl s2 ⟨l,H2,I2,pl,q2⟩=>thn (hu uV s2 σ H2 _ I2 q2) fun vu s3 ⟨u,H3,I3,pu,q3⟩=>?_);rw[evalPart_none];refine wpAny_pure ?_;have I4:Inv X uV σ H3 { s3 with heap:=s3.heap.push { cls:=.type "slice",data:=.fields #[vl,vu,.none] } }:=I3.kept (t':=s3.toks) fun b ob q=>gV _ q;obtain⟨T,id,hT,ht,hg⟩:=hr uV { s3 with heap:=s3.heap.push { cls:=.type "slice",data:=.fields #[vl,vu,.none] } } σ H3 x v vl vu l u s3.heap.objs.size Q I4 r1 (Heap.IsSliceOf.new ..) pl pu q3;show wpAny (model X.prog X.w) X.A (subscriptTail e (.Slice lo hi none p2) v (.ref s3.heap.objs.size)) (EP X uV σ Q) X.xe { s3 with heap:=s3.heap.push { cls:=.type "slice",data:=.fields #[vl,vu,.none] } };exact tail_any (ops:=[.ref s3.heap.objs.size,v]) ht hT hg (by with_unfolding_all rfl)
noncomputable def wM(xs:List V)(lo hi:Option Int):List V:=(xs.drop (HT.sIx xs.length 0 lo)).take (HT.sIx xs.length xs.length hi-HT.sIx xs.length 0 lo)
theorem tZ(xs:List V)(lo hi:Option Int):(wM xs lo hi).length<=xs.length:=by
 unfold wM;rw[UD,V4]
 lia
end
noncomputable def ixN(n:Nat)(i:Int):Option Nat:=if 0<=i then (if i<n then some i.toNat else none) else if -(n:Int)<=i then some (i+n).toNat else none
noncomputable def atI{α:Type}(xs:List α)(i:Int):Option α:=(ixN xs.length i).bind fun j=>xs[j]?
theorem yr{n:Nat}{i:Int}{j:Nat}(h:ixN n i=some j):seqIndex? i n=some j/\j<n/\-(n:Int)<=i/\i<n:=by
 unfold ixN at h;by_cases h0:0<=i
 ·rw[if_pos h0]at h;by_cases h1:i<n
  ·rw[if_pos h1]at h;have e:i.toNat=j:=Option.some.inj h;exact⟨by rw[seqIndex_of h0 h1,e],by lia,by lia,h1⟩
  ·rw[if_neg h1]at h;cases h
 ·rw[if_neg h0]at h;by_cases h1:-(n:Int)<=i
  ·rw[if_pos h1]at h;have e:(i+n).toNat=j:=Option.some.inj h;exact⟨by rw[seqIndex_neg (by lia) h1,e],by lia,h1,by lia⟩
  ·rw[if_neg h1]at h;cases h
theorem yt{α:Type}{xs:List α}{i:Int}{v:α}(h:atI xs i=some v):∃j,seqIndex? i xs.length=some j/\xs[j]?=some v/\j<xs.length/\-(xs.length:Int)<=i/\i<xs.length:=by
 unfold atI at h;cases e:ixN xs.length i with
 |none=>rw[e]at h;cases h
 |some j=>rw[e]at h;obtain⟨h1,h2,h3,h4⟩:=yr e;exact⟨j,h1,h,h2,h3,h4⟩
def rG(b:Expr):Prop:=∀o i,subscripted b false o i=operate [o,i] (getItem o i)
def IxR(X:Cx)(r:R2):Prop:=
 ∀(value slice:Expr) (uV:List (Addr×Obj)) (s:Shared) (σ:St) (H:Hp) (x y:V) (v u:Value) (Q:VK),Inv X uV σ H s->RelV x v->RelV y u->r x y H Q ->
  subscripted slice false v u=operate [v,u] (getItem v u)->wpAny (model X.prog X.w) X.A (subscriptTail value slice v u) (EP X uV σ Q) X.xe s
def MtR(X:Cx)(id:String)(r:V->List V->Hp->VK->Prop):Prop:=
 ∀(uV:List (Addr×Obj)) (s:Shared) (σ:St) (H:Hp) (x:V) (xs:List V) (v:Value) (us:List Value) (Q:VK),Inv X uV σ H s->RelV x v->Vals xs us->r x xs H Q ->
  wpAny (model X.prog X.w) X.A (call (.builtin id) (v::us)) (EP X uV σ Q) X.xe s
section
variable{X:Cx}{a b:Expr}{ta tb:TE}{pos:Pos}
section
variable{uV:List (Addr×Obj)}{s:Shared}{H:Hp}{σ:St}
theorem IxR.or{r r':R2}(h:IxR X r)(h':IxR X r'):IxR X (fun x y H Q=>r x y H Q\/r' x y H Q):=by
 intro value slice uV s σ H x y v u Q I rx ry q hs;rcases q with q | q
 ·exact h value slice uV s σ H x y v u Q I rx ry q hs
 ·exact h' value slice uV s σ H x y v u Q I rx ry q hs
theorem IQ{r:R2}(hr:IxR X r)(ha:PE X a ta)(hb:PE X b tb)(hs:rG b):PE X (.Subscript a b pos) (tOp r ta tb):=by intro uV s σ H Q I h;exact Subscript_ (KR ha hb I h fun v u s2 x y H2 I2 rx ry q=>hr a b uV s2 σ H2 x y v u Q I2 rx ry q (hs _ _))
def K8(K:eg):R2:=fun x y H Q=>∃p xs i v,x=.ref p/\y=.int i/\SqL K H p xs/\atI xs i=some v/\Q v H
def OB(K:eg):R2:=fun x y H Q=>∃p xs i v,x=.ref p/\y=.int i/\SqT K H p xs/\atI xs i=some v/\Q v H
theorem yu:IxR X (K8 X.K):=by
 intro value slice uV s σ H x y v u Q I rx ry h hs;obtain⟨p,xs,i,z,rfl,rfl,hq,he,q⟩:=h;cases rx;obtain⟨t,rfl⟩:=ry;obtain⟨its,r,pl,hz⟩:=I.list hq;obtain⟨j,h1,h2,h3,h4,h5⟩:=yt he;obtain⟨w,ew,rw'⟩:=r.get h2;have hl:=r.length;have hn:=mK;have HB:EP X uV σ Q w s:=⟨z,H,I,rw',q⟩
 by_cases h0:0<=i
 ·have hj:i.toNat=j:=by
   rw[seqIndex_of h0 h5]at h1;exact Option.some.inj h1
  exact item_listR pl.isList h0 (by lia) (by rw[hj];simpa using ew) HB hs
 ·have hj:(i+(its.toArray.size:Int)).toNat=j:=by
   rw[seqIndex_neg (by lia) h4]at h1;rw[Sx,<- hl];exact Option.some.inj h1
  exact subscriptTail_builtinR (x:=w) pl.isList.typeIs slot_list_getitem.lookup
   (wpAny_getItem_list_neg (Q:=fun r s'=>r=w/\EP X uV σ Q r s') pl.isList (by lia) (by rw[Sx]<;>lia) (by lia) (by rw[hj];simpa using ew) ⟨rfl,HB⟩) hs
theorem K9:IxR X (OB X.K):=by
 intro value slice uV s σ H x y v u Q I rx ry h hs;obtain⟨p,xs,i,z,rfl,rfl,hq,he,q⟩:=h;cases rx;obtain⟨t,rfl⟩:=ry;obtain⟨its,r,pl,hz⟩:=I.tuple hq;obtain⟨j,h1,h2,h3,h4,h5⟩:=yt he;obtain⟨w,ew,rw'⟩:=r.get h2;have hl:=r.length;have hn:=mK;have HB:EP X uV σ Q w s:=⟨z,H,I,rw',q⟩
 exact subscriptTail_builtinR (x:=w) pl.typeIs slot_tuple_getitem.lookup
  (getItem_tuple (j:=j) (Q:=fun r s'=>r=w/\EP X uV σ Q r s') pl (by lia) (by lia) (by rw[Sx,<- hl];exact h1) (by simpa using ew) ⟨rfl,HB⟩) hs
theorem wN(its:List Value)(n j:Nat)(u:Value):T3 (·.setIfInBounds j u) { cls:=.type "list",data:=.seq its.toArray n }={ cls:=.type "list",data:=.seq (its.set j u).toArray n }:=by simp[T3]
theorem Inv.lst{uV:List (Addr×Obj)}{σ:St}{H:Hp}{s:Shared}{p:Addr}{xs:List V}(I:Inv X uV σ H s)(h:H p=some (.lst xs)) :
  ∃(its:List Value) (n:Nat),Vals xs its/\s.heap.get? p=some { cls:=.type "list",data:=.seq its.toArray n }/\xs.length<=sizeLine:=by
 obtain⟨z,its,n,r,e⟩:=I.hok p _ h;exact⟨its,n,r,e,z⟩
theorem Inv.K_{p:Addr}{xs ys:List V}{its its':List Value}{n n':Nat}{f:Obj->Obj}(I:Inv X uV σ H s)(h:H p=some (.lst xs))
  (ho:s.heap.get? p=some { cls:=.type "list",data:=.seq its.toArray n }) (hf:f { cls:=.type "list",data:=.seq its.toArray n }={ cls:=.type "list",data:=.seq its'.toArray n' }) (r:Vals ys its') (hz:ys.length<=sizeLine) (t:Nat) :
  Inv X uV σ (upd H p (.lst ys)) { s with heap:=s.heap.update p f,toks:=t }:=by
 have e:(s.heap.update p f).get? p=some { cls:=.type "list",data:=.seq its'.toArray n' }:=by rw[VB f ho (by rw[hf]<;>rfl),hf]
 refine I.write (x:=p) (e:=p) (by rw[h];trivial) (.inl rfl) (fun b u hb q=>(VZ _ _ (Ue hb)).trans q) ⟨_,e⟩ ?_;exact⟨hz,its',n',r,e⟩
def t7:V->V->V->Hp->(Hp->Prop)->Prop:=fun o i v H Q=>∃p xs k j,o=.ref p/\i=.int k/\H p=some (.lst xs)/\ixN xs.length k=some j/\Q (upd H p (.lst (xs.set j v)))
theorem set_list:Ot X t7:=by
 intro uV s σ H o i v ov iv u Q I ro ri rv h;obtain⟨p,xs,k,j,rfl,rfl,hp,hj,q⟩:=h;cases ro;obtain⟨t,rfl⟩:=ri;obtain⟨its,n,r,ho,hz⟩:=I.lst hp;obtain⟨h1,h2,h3,h4⟩:=yr hj;have hl:=r.length;have hn:=mK;have I':Inv X uV σ (upd H p (.lst (xs.set j v))) { s with heap:=s.heap.update p (T3 (·.setIfInBounds j u)) }:=
  I.K_ hp ho (wN its n j u) (r.set rv j) (by rw[Ug];exact hz) s.toks
 by_cases h0:0<=k
 ·have hk:k.toNat=j:=by
   rw[seqIndex_of h0 h4]at h1;exact Option.some.inj h1
  exact PySem.W.ki_setAt ho h0 (by lia) (by rw[Sx,<- hl];exact h4) (by rw[hk];exact⟨_,I',q⟩)
 ·have hk:(k+(its.toArray.size:Int)).toNat=j:=by
   rw[seqIndex_neg (by lia) h3]at h1;rw[Sx,<- hl];exact Option.some.inj h1
  exact PySem.W.ki_setBack ho (by lia) (by rw[Sx,<- hl];exact h3) (by lia) (by rw[hk];exact⟨_,I',q⟩)
theorem rH(lo hi:Option Int)(n:Nat):(sliceBounds lo hi none n).1=((HT.sIx n 0 lo:Nat):Int)/\(sliceBounds lo hi none n).2.1=((HT.sIx n n hi:Nat):Int)/\(sliceBounds lo hi none n).2.2=1:=by
 refine⟨?_,?_,rfl⟩
 ·cases lo with
  |none=>simp[sliceBounds,HT.sIx]
  |some i=>
   simp only[sliceBounds,HT.sIx,Option.getD_none,show (1:Int)>0 by decide,if_true];by_cases h:i<0
   ·simp only[h,if_true]<;>lia
   ·simp only[h,if_false]<;>lia
 ·cases hi with
  |none=>simp[sliceBounds,HT.sIx]
  |some i=>
   simp only[sliceBounds,HT.sIx,Option.getD_none,show (1:Int)>0 by decide,if_true];by_cases h:i<0
   ·simp only[h,if_true]<;>lia
   ·simp only[h,if_false]<;>lia
theorem pT(its:List Value)(lo hi:Option Int):slicePick its.toArray lo hi none=((its.drop (HT.sIx its.length 0 lo)).take (HT.sIx its.length its.length hi-HT.sIx its.length 0 lo)).toArray:=by obtain⟨h1,h2,h3⟩:=rH lo hi its.toArray.size;unfold slicePick;rw[h1,h2,h3];simp only[sliceRange_one,pick_run,Sx]<;>rfl
def OC(K:eg):V->Option Int->Option Int->Hp->VK->Prop:=fun x lo hi H Q=>∃a xs,x=.ref a/\SqL K H a xs/\∀p,H p=none->Q (.ref p) (upd H p (.lst (wM xs lo hi)))
theorem F3:SlR X (OC X.K):=by intro uV s σ H x v vl vu lo hi sl Q I rx hs pl pu h;obtain⟨a,xs,rfl,hx,q⟩:=h;cases rx;obtain⟨its,r,ht,hz⟩:=I.list hx;have xM:=r.length;refine⟨"list",_,slot_list_getitem.lookup,ht.isList.typeIs,?_⟩;refine wpAny_getItem_list_slice ht.isList hs pl pu .none (by simp) ?_ (by rw[Sx]<;>lia);rw[pT,<- xM];refine⟨.ref s.heap.objs.size,_,I.laid (t':=s.toks) (o:=.lst (wM xs lo hi)) (fun b ob q=>gV _ q) (Nat.le_refl _) ?_,rfl,q _ (I.hok.fresh (Nat.le_refl _))⟩;exact⟨Nat.le_trans (tZ xs lo hi) hz,_,0,(r.drop (HT.sIx xs.length 0 lo)).take (HT.sIx xs.length xs.length hi-HT.sIx xs.length 0 lo),TQ _ rfl⟩
theorem rJ:cy X (.builtin "len") (fun xs H Q=>∃p ys,xs=[.ref p]/\(SqL X.K H p ys\/SqT X.K H p ys)/\Q (.int ys.length) H):=by
 intro uV s σ H xs us Q I r h;obtain⟨p,ys,rfl,hq,q⟩:=h;obtain⟨u,rfl,rx⟩:=vals1 r;cases rx;have hn:=mK;rcases hq with hq | hq
 ·obtain⟨its,r',pl,hz⟩:=I.list hq;have xM:=r'.length;exact Calls.call_len_list pl.isList (by simp only[Sx]<;>lia) ⟨.int ys.length,H,I.tok _,⟨s.toks+1,by rw[Sx,xM]⟩,q⟩
 ·obtain⟨its,r',pl,hz⟩:=I.tuple hq;have xM:=r'.length;exact len_tuple pl (by simp only[Sx]<;>lia) ⟨.int ys.length,H,I.tok _,⟨s.toks+1,by rw[Sx,xM]⟩,q⟩
theorem rK:cy X (.type "list") (fun xs H Q=>∃p ys,xs=[.ref p]/\(SqL X.K H p ys\/SqT X.K H p ys)/\∀l,H l=none->Q (.ref l) (upd H l (.lst ys))):=by
 intro uV s σ H xs us Q I r h;obtain⟨p,ys,rfl,hq,q⟩:=h;obtain⟨u,rfl,rx⟩:=vals1 r;cases rx;have HB:∀(its:List Value),Vals ys its->ys.length<=sizeLine->∀(h':Heap) (c':Nat),(∀b o',s.heap.get? b=some o'->h'.get? b=some o') ->
   h'.get? s.heap.objs.size=some { cls:=.type "list",dict:=none,data:=.seq its.toArray c',slots:=#[] }->EP X uV σ Q (.ref s.heap.objs.size) { s with heap:=h' }:=fun its r' hz h' c' kp e=>
  ⟨.ref s.heap.objs.size,_,I.laid (t':=s.toks) kp (Nat.le_refl _) (show aR X.prog X.w _ h' _ (.lst ys) from ⟨hz,its,c',r',e⟩),rfl,q _ (I.hok.fresh (Nat.le_refl _))⟩
 rcases hq with hq | hq
 ·obtain⟨its,r',pl,hz⟩:=I.list hq;have xM:=r'.length;obtain⟨o,ho,hc,n,hd⟩:=pl.isList;exact call_list_seq p (.inl rfl) ho hc hd (fun h' c' kp e=>HB its r' hz h' c' kp e) (by simp only[Sx]<;>lia)
 ·obtain⟨its,r',pl,hz⟩:=I.tuple hq;have xM:=r'.length;obtain⟨o,ho,hc,n,hd⟩:=pl;exact call_list_seq p (.inr rfl) ho hc hd (fun h' c' kp e=>HB its r' hz h' c' kp e) (by simp only[Sx]<;>lia)
theorem pU:cy X (.type "tuple") (fun xs H Q=>∃p ys,xs=[.ref p]/\((SqL X.K H p ys/\∀l,H l=none->Q (.ref l) (upd H l (.tup ys)))\/(SqT X.K H p ys/\Q (.ref p) H))):=by
 intro uV s σ H xs us Q I r h;obtain⟨p,ys,rfl,h⟩:=h;obtain⟨u,rfl,rx⟩:=vals1 r;cases rx;rcases h with⟨hq,q⟩ | ⟨hq,q⟩
 ·obtain⟨its,r',pl,hz⟩:=I.list hq;have xM:=r'.length;refine call_tuple_list pl.isList (fun h' kp=>?_) (by simp only[Sx]<;>lia);have I1:Inv X uV σ H { s with heap:=h' }:=I.kept (t':=s.toks) kp;have I2:Inv X uV σ (upd H h'.objs.size (.tup ys)) { s with heap:=h'.push { cls:=.type "tuple",data:=.seq its.toArray } }:=
   I1.laid (t':=s.toks) (fun b o e=>gV _ e) (Nat.le_refl _) (show aR X.prog X.w _ _ _ (.tup ys) from ⟨hz,its,r',IsTup.new _ _⟩)
  exact⟨.ref h'.objs.size,_,I2,rfl,q _ (I1.hok.fresh (Nat.le_refl _))⟩
 ·obtain⟨its,r',pl,hz⟩:=I.tuple hq;exact call_tuple_same pl ⟨.ref p,H,I,rfl,q⟩
def tyV(K:eg)(T:String)(x:V)(H:Hp):Prop:=match x with
 |.str _=>T = "str"
 |.int _=>T = "int"
 |.ref p=>(T = "list" /\ ∃xs,SqL K H p xs)\/(T = "tuple" /\ ∃o,K.lookup p=some o/\o.cls=.type "tuple" /\ o.dict=none) \/
   (T = "dict" /\ ((∃kvs,H p=some (.dK kvs))\/∃kvs,H p=some (.dT kvs)))\/(T = "set" /\ ∃S n,H p=some (.set S n))
 |_=>False
theorem La{T:String}{x:V}{v:Value}(I:Inv X uV σ H s)(r:RelV x v)(ty:tyV X.K T x H) :
  s.TypeIs v T/\∀a,v=.ref a->∃ob,s.heap.get? a=some ob/\ob.dict=none:=by
 cases x with
 |str z=>obtain⟨t,rfl⟩:=r;cases (show T = "str" from ty);exact⟨typeIs_str s z t,fun _ e=>nomatch e⟩
 |int i=>obtain⟨t,rfl⟩:=r;cases (show T = "int" from ty);exact⟨typeIs_int s i t,fun _ e=>nomatch e⟩
 |ref p=>
  cases r;rcases ty with⟨rfl,xs,hq⟩ | ⟨rfl,o,hk,hc,hd⟩ | ⟨rfl,hk⟩ | ⟨rfl,S,n,hk⟩
  ·obtain⟨its,_,pl,_⟩:=I.list hq;refine⟨pl.isList.typeIs,fun a e=>?_⟩;cases e;obtain⟨o,n,e,c,hd,_⟩:=pl;exact⟨o,e,hd⟩
  ·refine⟨⟨o,I.kIn p o hk,hc⟩,fun a e=>?_⟩;cases e;exact⟨o,I.kIn _ o hk,hd⟩
  ·have z:∃o,s.heap.get? p=some o/\o.ExactDict:=by
    rcases hk with⟨kvs,hk⟩ | ⟨kvs,hk⟩
    ·obtain⟨_,_,_,_,o,_,_,e,ex,_⟩:=I.hok p _ hk;exact⟨o,e,ex⟩
    ·obtain⟨_,_,_,_,o,_,_,e,ex,_⟩:=I.hok p _ hk;exact⟨o,e,ex⟩
   obtain⟨o,e,ex⟩:=z;refine⟨⟨o,e,ex.1⟩,fun a e2=>?_⟩;cases e2;exact⟨o,e,ex.2.1⟩
  ·obtain⟨o,_,_,_,e,ex,_⟩:=I.hok p _ hk;refine⟨⟨o,e,ex.1⟩,fun a e2=>?_⟩;cases e2;exact⟨o,e,ex.2.1⟩
 |_=>exact TF ty
def tBM(K:eg)(T:String)(r:V->List V->Hp->VK->Prop)(to:TE)(t:TA):TE:=fun σ H Q=>to σ H fun x H1=>tyV K T x H1/\t σ H1 fun xs H2=>r x xs H2 Q
variable{o e:Expr}{es:List Expr}{to:TE}{t:TA}{name:Str}{Qp cpos:Pos}{T id:String}{r:V->List V->Hp->VK->Prop}
theorem yw(pa:PlainAttrs T)(slot:Slot T name id)(hty:typeOf (.builtin id)=pure (.type "method_descriptor"))(hm:MtR X id r)(ho:PE X o to)(ha:PA X (e::es) t)
  (R1:attributeBase o name X.env (eval o X.env)=eval o X.env:=by rfl)
  (hfew:((backTo cpos (starEach (e::es) X.env)).all (fun x=>!x.1)&&(backToKw cpos (keywordEach [] X.env)).all (fun x=>x.1.isSome)
   && decide ((e::es).length+([]:List Keyword).length+(if ([]:List Keyword).isEmpty then 0 else 1)<30))=true:=by rfl)
  (QK:(Qp.endLine == cpos.line)=true:=by rfl) (hs:starEach (e::es) X.env=(false,eval e X.env)::starEach es X.env:=by rfl) (JC:(backTo cpos (starEach es X.env)).any (·.1)=false:=by rfl) :
  PE X (.Call (.Attribute o name Qp) (e::es) [] cpos) (tBM X.K T r to t):=by
 intro uV s σ H Q I h;refine wpAny_Call_method_late R1 hfew QK rfl (thn (ho uV s σ H _ I h) fun v s1 ⟨x,H1,I1,r1,ty,q1⟩=>?_);obtain⟨h1,h2⟩:=La I1 r1 ty;refine⟨T,id,pa,slot,hty,h1,h2,?_⟩;have hA:=ha cpos uV s1 σ H1 _ I1 q1;rw[hs]at hA ⊢;refine V0 (by show (false||(backTo cpos (starEach es X.env)).any (·.1))=false;rw[JC]<;>rfl) (Wa ?_);exact thn hA fun us s2 ⟨vs,H2,I2,r2,q2⟩=>hm uV s2 σ H2 x vs v us Q I2 r1 r2 q2
end
end
def MtM(X:Cx)(id:String)(r:V->List V->Hp->VK->Prop):Prop:=
 ∀(uV:List (Addr×Obj)) (s:Shared) (σ:St) (H:Hp) (x:V) (xs:List V) (v:Value) (us:List Value) (Q:VK),Inv X uV σ H s->RelV x v->Vals xs us->r x xs H Q ->
  wpAny (model X.prog X.w) X.A (call (.builtin id) (v::us)) (EP X uV σ Q) X.xe s
theorem Vals.one:∀{x:V} {us:List Value},Vals [x] us->∃u,us=[u]/\RelV x u
 |_,_,.cons r .nil=>⟨_,rfl,r⟩
theorem Vals.eraseIdx:∀{xs:List V} {us:List Value} (i:Nat),Vals xs us->Vals (xs.eraseIdx i) (us.eraseIdx i)
 |_,_,_,.nil=>.nil
 |_,_,0,.cons _ t=>t
 |_,_,i+1,.cons r t=>.cons r (Vals.eraseIdx i t)
theorem Vals.rep{xs:List V}{us:List Value}(h:Vals xs us):∀k:Nat,Vals (Dk k xs).flatten (Dk k us).flatten
 |0=>.nil
 |k+1=>by rw[UY,UY,Vm,Vm];exact Vals.append h (Vals.rep h k)
theorem ql{α:Type}:∀(l:List α) (i:Nat),(l.eraseIdx i).length<=l.length
 |[],_=>Nat.le_refl _
 |_::_,0=>V1 _
 |_::r,i+1=>Nat.succ_le_succ (ql r i)
theorem foldl_rep(its:List Value):∀(k:Nat) (DZ:List Value),
  Xh (fun x1 x2=>x1++x2) DZ.toArray (Dk k its.toArray)=(DZ++(Dk k its).flatten).toArray
 |0,DZ=>by simp
 |k+1,DZ=>by
  have e:DZ.toArray++its.toArray=(DZ++its).toArray:=by simp
  have e2:(DZ++its)++(Dk k its).flatten=DZ++(Dk (k+1) its).flatten:=by rw[UY,Vm,UU]
  rw[<- e2,<- foldl_rep its k (DZ++its),<- e,UY,List.foldl_cons]
section
variable{X:Cx}{uV:List (Addr×Obj)}{σ:St}{H:Hp}{s:Shared}{l b:Addr}{xs ys zs:List V}
theorem Inv.Lb{its its':List Value}{n:Nat}{f:Array Value->Array Value}{t':Nat}(I:Inv X uV σ H s)(hH:H l=some (.lst xs))
  (e:s.heap.get? l=some { cls:=.type "list",data:=.seq its.toArray n }) (hf:f its.toArray=its'.toArray) (hv:Vals ys its') (hz:ys.length<=sizeLine) :
  Inv X uV σ (upd H l (.lst ys)) { s with heap:=s.heap.update l (T3 f),toks:=t' }:=by
 have q:=PySem.IsL.update e f;rw[hf]at q;refine I.write (x:=l) (e:=l) (by rw[hH];exact trivial) (.inl rfl) (fun b' u hb hu=>(VZ s.heap (T3 f) (Ue hb)).trans hu) ⟨_,q⟩ ?_;exact⟨hz,its',_,hv,q⟩
theorem Inv.Lc{its:List Value}{t':Nat}(I:Inv X uV σ H s)(hv:Vals ys its)(hz:ys.length<=sizeLine) :
  Inv X uV σ (upd H s.heap.objs.size (.lst ys)) { s with heap:=s.heap.push { cls:=.type "list",data:=.seq its.toArray },toks:=t' }:=
 I.laid (fun _ _ q=>gV _ q) (Nat.le_refl _) ⟨hz,its,0,hv,TQ _ rfl⟩
theorem Inv.fresh(I:Inv X uV σ H s):H s.heap.objs.size=none:=I.hok.fresh (Nat.le_refl _)
theorem Inv.Ld(I:Inv X uV σ H s)(hH:H l=some (.lst xs)):xs.length<=sizeLine/\∃(its:List Value) (n:Nat),Vals xs its/\xs.length=its.length/\s.heap.get? l=some { cls:=.type "list",data:=.seq its.toArray n }:=by obtain⟨z,its,n,r,e⟩:=I.hok l _ hH;exact⟨z,its,n,r,r.length,e⟩
theorem t8{n:Nat}(h:n<=sizeLine):Vq n=false:=by unfold Vq;exact decide_eq_false (by lia)
end
section
variable{X:Cx}
def rL:V->List V->Hp->VK->Prop:=fun x vs H Q=>∃l xs y,x=.ref l/\vs=[y]/\H l=some (.lst xs)/\xs.length<sizeLine/\Q .non (upd H l (.lst (xs++[y])))
theorem kB:MtM X "list.append" rL:=by
 intro uV s σ H x vs v us Q I rx rv h;obtain⟨l,xs,y,rfl,rfl,hH,hz,q⟩:=h;cases rx;obtain⟨u,rfl,ru⟩:=rv.one;obtain⟨z,its,n,r,hl,e⟩:=I.Ld hH;refine call_meets F.slot_list_append ⟨_,e,rfl⟩ F.entry_list_append (F.args_list_append_2 _ _) (PySem.list_append l its.toArray n u (by rw[Sx];lia)) ⟨e,?_⟩;refine⟨.non,_,I.Lb (its':=its++[u]) hH e (by simp) (r.append (.cons ru .nil)) ?_,rfl,q⟩;rw[Tz,VC]
 lia
def BK:V->List V->Hp->VK->Prop:=fun x vs H Q=>∃l xs i k y,x=.ref l/\vs=[.int i]/\H l=some (.lst xs)/\-(2 ^ 63)<=i/\i<2 ^ 63/\seqIndex? i xs.length=some k/\xs[k]?=some y/\Q y (upd H l (.lst (xs.eraseIdx k)))
theorem BL:MtM X "list.pop" BK:=by
 intro uV s σ H x vs v us Q I rx rv h;obtain⟨l,xs,i,k,y,rfl,rfl,hH,h1,h2,hk,hy,q⟩:=h;cases rx;obtain⟨u,rfl,ru⟩:=rv.one;obtain⟨t,rfl⟩:=ru;obtain⟨z,its,n,r,hl,e⟩:=I.Ld hH;obtain⟨w,hw,rw'⟩:=r.get hy;refine call_meets F.slot_list_pop ⟨_,e,rfl⟩ F.entry_list_pop (F.args_list_pop_2 _ _)
  (MeetsSeq.list_pop_at l its.toArray n i t k w (fitsIndex_both h1 h2) (by rw[Sx,<- hl];exact hk) (by rw[<- Um];exact hw) (by rw[Sx];lia)) ⟨e,?_⟩
 refine⟨y,_,I.Lb (its':=its.eraseIdx k) hH e ?_ (r.eraseIdx k) ?_,rw',q⟩
 ·show its.toArray.eraseIdxIfInBounds k=(its.eraseIdx k).toArray;rw[List.eraseIdxIfInBounds_toArray]
 ·have:=ql xs k
  lia
theorem len_rep{α:Type}(xs:List α)(k:Nat):(Dk k xs).flatten.length=k*xs.length:=by
 induction k with
 |zero=>simp
 |succ k ih=>rw[UY,Vm,Tz,ih,Nat.succ_mul,Nat.add_comm]
end
end L2
namespace Att
open PySem PySem.W PySem.Calls PyProof.Rows
theorem lR{P:Params}{h:Heap}:∀(ns:List Int) (vs:List Value),WellAll P h vs (ns.map WData.int)->IntsAre vs ns:=by
 intro ns
 induction ns with
 |nil=>intro vs w;rw[Xd]at w;cases w;exact .nil
 |cons n ns ih=>
  intro vs w;rw[PU]at w;cases w with
  |cons a b=>cases a;exact .cons _ _ (ih _ b)
theorem Ab{l:OpenLaw}{n:Nat}(hn:l.most=some n){P:Params}{h:Heap}{args:List WData}{vals:List Value}
  (hpre:l.row.toRowW.claim.pre args=true) (hwl:WellAll P h vals args) :
  ∃a vs ns,vals=[TZ a]/\args=[WData.list (ns.map WData.int)]/\h.get? a=some { cls:=.type "list",data:=.seq vs.toArray }/\IntsAre vs ns/\ns.length<=n:=by
 have hsh:WShape.hasAll [] args [.list .int]=true:=(pre_splitW hpre).1;have hc:l.pre.holds [] { args:=args }=true:=(pre_splitW hpre).2;obtain⟨d,r,rfl,h1,h2⟩:=hasAllW_cons hsh;obtain rfl:=hasAllW_nil h2;obtain⟨xs,rfl,h3⟩:=hasW_list h1;obtain⟨ns,rfl⟩:=items_int h3;have xM:ns.length<=n:=by
  unfold OpenLaw.pre at hc;have h4:(WTm.not (.lt (.lit (.int (n:Int))) (.len (.arg 0)))).holds [] { args:=[.list (ns.map .int)] }=true:=by have h4:=(holds_andW hc).1;rw[hn]at h4;exact h4
  have h5:=condW_of h4 (w_not (w_lt w_lit (w_len_list (w_arg rfl))));rw[Dp]at h5;refine Nat.le_of_not_lt fun q=>?_;have q':(n:Int)<((ns.length:Nat):Int):=by omega
  first
   |(rw[decide_eq_true q']at h5;exact absurd h5 (by decide))
   |(simp at h5;omega)
 cases hwl with
 |cons w1 w2=>
  cases w2;cases w1 with
  |list ho hall=>exact⟨_,_,ns,rfl,rfl,ho,lR ns _ hall,xM⟩
theorem Ac(l:OpenLaw)(args:List WData):l.row.toRowW.claim.post args (.bool true) args=true:=
 postW_of (r:=l.row.toRowW) (X:=(true == true))
  (show WShape.has [] (.bool true) .bool=true by first | rfl | decide | simp[WShape.has,WShape.arms,WShape.armsAll])
  (show (WTm.eq .res (.lit (.bool true))).value [] { args:=args,res:=some (.bool true),after:=args }=some (.bool (true == true)) from w_eq_bool (w_res rfl) w_lit) rfl
theorem t9{l:OpenLaw}{n:Nat}{q:Program}{loose:List Str}{XP:(Str->Option Value)->Heap->Prop}{YP:World->Heap->Prop}{d:DefRec}
  (hn:l.most=some n) (hdf:d.params.defaults=[])
  (call:∀ (w:World) (s₀ s₁:Shared) (mg mb:Str→Option Value) (fa:Addr) (o:Obj) (pm cd doc:Value) (a:Addr) (vs:List Value) (ns:List Int),
   Ground q loose [] XP w s₀ mg mb s₁.heap->YP w s₁.heap ->
   s₁.heap.get? fa=some o->o.data=.func (docDef d.name d.params d.body d.scope pm cd doc)->s₁.heap.CodeRec cd d.name->mg d.name=some (.ref fa) ->
   s₁.heap.get? a=some { cls:=.type "list",data:=.seq vs.toArray }->IntsAre vs ns->ns.length<=n->s₁.gens=#[] ->
   codeAny (model l.prog w) callerA (.call (.ref fa) ⟨[.ref a],[]⟩) (fun r s'=>r=.ok (.ret (.bool true))/\OldK s₁.heap s'.heap/\s'.os=s₁.os/\AllBare s'.gens) s₁) :
  WalkO q loose XP YP l.row.toRowW d [] (fun f vs=>PySem.call f vs):=by
 intro w s₀ s₁ mg mb G Y fa o pm cd doc dV kV ho hd MZ hD hmg hg args vals as hpre hlay hrd hwl hlo;obtain rfl:dV=.none:=Dflts.none hD hdf;obtain rfl:kV=.none:=Dflts.noKw hD;obtain⟨a,vs,ns,rfl,rfl,hobj,hints,xM⟩:=Ab hn hpre hwl;refine enter_call (codeAny_mono (call w s₀ s₁ mg mb fa o pm cd doc a vs ns G Y ho (fd_plain hd) MZ hmg hobj hints xM hg) fun r s' hq=>?_);obtain⟨rfl,h2,h3,h4⟩:=hq;exact⟨.inl ⟨.bool true,.bool true,[],rfl,fun _=>rfl,.bool true,Ac l _,fun _=>⟨List.Pairwise.nil,fun _ hm=>(nomatch hm)⟩⟩,h2,h3,h4⟩
end Att
namespace L2
open PySem PySem.Spec PyProof.Rows
noncomputable def aN(s:Stmt):Arguments:=match s with
 |.FunctionDef _ a _ _ _ _ _ _ _ _=>a
 |_=>{ posonlyargs:=[],args:=[],vararg:=none,kwonlyargs:=[],kw_defaults:=[],kwarg:=none,defaults:=[] }
noncomputable def aI(s:Stmt):List Stmt:=match s with
 |.FunctionDef _ _ b _ _ _ _ _ _ _=>b
 |_=>[]
noncomputable def ah(s:Stmt):Scope:=match s with
 |.FunctionDef _ _ _ _ _ _ sc _ _ _=>sc
 |_=>{ kind:=.function,names:=[],isGenerator:=false,isCoroutine:=false }
noncomputable abbrev CX0:CXT:=fun _ _ _ _ _ _=>False
noncomputable abbrev E0:XK:=fun _ _ _=>False
theorem qm{X:Cx}:Passes CX0 X E0:=fun _ _ _ _ _ _ _ h=>h.elim
structure Fun(K:eg)(x qual:Str)(st:Stmt)(f:Addr)(fd:FuncData):Prop where
 ex:∃(oc:Value) (od:Option Addr) (kV doc pm:Value) (an:Option Addr) (cdv ct:Value) (osl:Array (Option Value)),
  fd=TX x qual (aN st) (aI st) (ah st) .none kV doc pm an cdv ct/\K.lookup f=some ⟨oc,od,.func fd,osl⟩/\Va K cdv qual=true
 kp:Ul K (.ref f)=true
section
variable{P:Program}{w:World}{K:eg}{mg:Str->Option Value}{base:Heap}
section
variable{x qual:Str}{st:Stmt}{fd:FuncData}{f:Addr}
theorem Fun.ok{N ps:List Str}{k:Nat}{sp:Sp}(F:Fun K x qual st f fd)(S:au N ps (ah st))(len:∀vs H Q E,sp vs H Q E->vs.length=ps.length)
  (hbody:∀ (cdv:Value) (A:Around) (outer:List Env) (s:Shared) (H:Hp) (vs:List V) (Q:VK) (E:XK),aT k (A.deeper (envOfC qual (ah st) s.heap.objs.size f cdv))→sp vs H Q E →
   ∃t,PSs (dc CX0 P w K mg base N qual (ah st) f cdv A outer s H E).nox (aI st) t/\t { nx:=fun _ H'=>Q .non H',rt:=Q } (start N vs) H):aK P w K mg base CX0 (k+1) f fd ps sp:=by
 obtain⟨oc,od,kV,doc,pm,an,cdv,ct,osl,rfl,lk,MZ⟩:=F.ex;refine tW lk MZ S len fun A outer s H vs Q E hr hsp=>?_;obtain⟨t,h,q⟩:=hbody cdv A outer s H vs Q E hr hsp;exact⟨t,h.nox,q⟩
theorem Fun.binds{ps:List Str}(F:Fun K x qual st f fd)
  (h:∀(kV doc pm:Value) (an:Option Addr) (cdv ct:Value) (us:List Value),us.length=ps.length->bindArgs (TX x qual (aN st) (aI st) (ah st) .none kV doc pm an cdv ct) ⟨us,[]⟩=pure (ps.zip us)):Binds K fd ps []:=by
 obtain⟨oc,od,kV,doc,pm,an,cdv,ct,osl,rfl,lk,MZ⟩:=F.ex;exact .all (h kV doc pm an cdv ct)
theorem Le{oc:Value}{od an:Option Addr}{osl:Array (Option Value)}{kV doc pm cdv ct:Value}(l:K.lookup f=some ⟨oc,od,.func (TX x qual (aN st) (aI st) (ah st) .none kV doc pm an cdv ct),osl⟩)
  (c:Va K cdv qual=true) (k:Ul K (.ref f)=true):Fun K x qual st f (TX x qual (aN st) (aI st) (ah st) .none kV doc pm an cdv ct):=⟨⟨oc,od,kV,doc,pm,an,cdv,ct,osl,rfl,l,c⟩,k⟩
end
end
theorem Ad{n:Nat}(h:n<=1000):n<sizeLine:=Ve h (by decide)
def av(H H':Hp):Prop:=∀b o,H b=some o->H' b=some o
theorem av.refl(H:Hp):av H H:=fun _ _ h=>h
theorem av.trans{H H1 H2:Hp}(a:av H H1)(b:av H1 H2):av H H2:=fun c o h=>b c o (a c o h)
theorem av.free{H H':Hp}(e:av H H'){l:Addr}(h:H' l=Option.none):H l=Option.none:=by
 cases q:H l with
 |none=>rfl
 |some o=>rw[e l o q]at h;cases h
section
variable{κ:Type}[DecidableEq κ]
section
variable{u:Option Value}{o:Option V}{y:V}
noncomputable def gZ(kvs:List (κ×V))(k:κ):Option V:=(kvs.find? fun kv=>decide (kv.1=k)).map (·.2)
noncomputable def putK(kvs:List (κ×V))(k:κ)(v:V):List (κ×V):=
 if (kvs.any fun kv=>decide (kv.1=k))=true then kvs.map (fun kv=>if kv.1=k then (kv.1,v) else kv) else kvs++[(k,v)]
noncomputable def k_(kvs:List (κ×V))(k:κ):List (κ×V):=kvs.filter fun kv=>decide (kv.1≠k)
theorem jF{p:κ×V}{r:List (κ×V)}{k:κ}(e:p.1=k):gZ (p::r) k=some p.2:=by simp[gZ,UX,e]
theorem jG{p:κ×V}{r:List (κ×V)}{k:κ}(e:¬p.1=k):gZ (p::r) k=gZ r k:=by simp[gZ,UX,e]
theorem t_(k:κ):∀kvs:List (κ×V),(kvs.any fun kv=>decide (kv.1=k))=(gZ kvs k).isSome
 |[]=>rfl
 |p::r=>by
  rw[Vw];by_cases e:p.1=k
  ·simp only[jF e,decide_eq_true e,Bool.true_or,Option.isSome_some]
  ·rw[jG e,decide_eq_false e,Bool.false_or];exact t_ k r
theorem fP(kvs:List (κ×V))(k:κ)(v:V):(putK kvs k v).length<=kvs.length+1:=by
 unfold putK;split
 ·rw[Dp];lia
 ·rw[Tz,Uy,WU];lia
theorem jx.eK(r:jx o u):o.isSome=u.isSome:=by
 cases o with
 |none=>cases u with
  |none=>rfl
  |some _=>exact(show False from r).elim
 |some _=>cases u with
  |none=>exact(show False from r).elim
  |some _=>rfl
theorem jx.getD{d:V}{d':Value}(r:jx o u)(rd:RelV d d'):RelV (o.getD d) (u.getD d'):=by
 cases o with
 |none=>cases u with
  |none=>exact rd
  |some _=>exact(show False from r).elim
 |some _=>cases u with
  |none=>exact(show False from r).elim
  |some _=>exact r
theorem KV.val{kvs:List (κ×V)}{vs:List (κ×Value)}(r:KV kvs vs)(k:κ):jx (gZ kvs k) (valueAt vs k):=by
 unfold KV at r
 induction r with
 |nil=>exact U1
 |@cons p q ps qs h t ih=>
  obtain⟨h1,h2⟩:=h;by_cases e:p.1=k
  ·have e':q.1=k:=h1.symm.trans e;have b:valueAt (q::qs) k=some q.2:=by simp[valueAt,UX,e']
   rw[jF e,b];exact h2
  ·have e':¬q.1=k:=fun z=>e (h1.trans z);have b:valueAt (q::qs) k=valueAt qs k:=by simp[valueAt,UX,e']
   rw[jG e,b];exact ih
theorem KV.any{kvs:List (κ×V)}{vs:List (κ×Value)}(r:KV kvs vs)(k:κ):(kvs.any fun kv=>decide (kv.1=k))=vs.any fun kv=>decide (kv.1=k):=by
 unfold KV at r
 induction r with
 |nil=>rfl
 |cons h t ih=>rw[Vw,Vw,ih,h.1]
theorem KV.repl{kvs:List (κ×V)}{vs:List (κ×Value)}(r:KV kvs vs)(k:κ){u:Value}(ry:RelV y u) :
  KV (kvs.map fun kv=>if kv.1=k then (kv.1,y) else kv) (vs.map fun kv=>if kv.1=k then (kv.1,u) else kv):=by
 unfold KV at r ⊢
 induction r with
 |nil=>exact .nil
 |@cons p q ps qs h t ih=>
  rw[PU,PU];refine .cons ?_ ih;obtain⟨h1,h2⟩:=h;by_cases e:p.1=k
  ·rw[if_pos e,if_pos (h1.symm.trans e)];exact⟨h1,ry⟩
  ·rw[if_neg e,if_neg (fun z=>e (h1.trans z))];exact⟨h1,h2⟩
theorem KV.put{kvs:List (κ×V)}{vs:List (κ×Value)}(r:KV kvs vs)(k:κ){u:Value}(ry:RelV y u):KV (putK kvs k y) (stored vs k u):=by
 unfold putK stored;rw[r.any k];by_cases e:(vs.any fun kv=>decide (kv.1=k))=true
 ·rw[if_pos e,if_pos e];exact r.repl k ry
 ·rw[if_neg e,if_neg e];exact Paired.snoc r ⟨rfl,ry⟩
theorem KV.drop{kvs:List (κ×V)}{vs:List (κ×Value)}(r:KV kvs vs)(k:κ):KV (k_ kvs k) (without vs k):=by
 unfold KV at r ⊢;unfold k_ without
 induction r with
 |nil=>exact .nil
 |@cons p q ps qs h t ih=>
  obtain⟨h1,h2⟩:=h;rw[T7,T7];by_cases e:p.1=k
  ·have a:¬decide (p.1≠k)=true:=by simp[e]
   have b:¬decide (q.1≠k)=true:=by simp[h1.symm.trans e]
   rw[if_neg a,if_neg b];exact ih
  ·have e':¬q.1=k:=fun z=>e (h1.trans z);have a:decide (p.1≠k)=true:=by simp[e]
   have b:decide (q.1≠k)=true:=by simp[e']
   rw[if_pos a,if_pos b];exact .cons ⟨h1,h2⟩ ih
theorem KV.length{kvs:List (κ×V)}{vs:List (κ×Value)}(r:KV kvs vs):kvs.length=vs.length:=Paired.length r
theorem BN(kvs:List (κ×V))(k:κ):(k_ kvs k).length<=kvs.length:=UL _ _
end
end
section
variable{xs:List (List Key×Addr×Value)}{kvs:List (List Key×V)}{u:Value}{P:Program}{w:World}{H:Hp}{y:V}
theorem lg{k:Key}(r:RelV (kV k) u):(aY P w).is k u=true:=by
 cases k with
 |inl i=>obtain⟨t,e⟩:=(show ∃t,u=Value.int i t from r);subst e;exact tL P w i t
 |inr x=>obtain⟨t,e⟩:=(show ∃t,u=WO x t from r);subst e;exact tM P w x t
theorem qo:∀{ks:List Key} {us:List Value},Vals (ks.map kV) us->ItemsAre (aY P w) ks us
 |[],_,r=>by rw[Xd]at r;cases r;exact .nil
 |k::ks,_,r=>by
  rw[PU]at r;cases r with
  |cons h t=>exact .cons (lg h) (qo t)
noncomputable abbrev KT(H:Hp):List (List Key×V)->List (List Key×Addr×Value)->Prop:=Paired fun p q=>p.1=q.1/\H q.2.1=some (.tup (p.1.map kV))/\RelV p.2 q.2.2
theorem KT.val(r:KT H kvs xs)(k:List Key):jx (gZ kvs k) ((atKey xs k).map (·.2)):=by
 induction r with
 |nil=>exact U1
 |@cons p q ps qs h t ih=>
  obtain⟨h1,_,h2⟩:=h;by_cases e:p.1=k
  ·have e':q.1=k:=h1.symm.trans e;have b:atKey (q::qs) k=some q.2:=by simp[atKey,UX,e']
   rw[jF e,b];exact h2
  ·have e':¬q.1=k:=fun z=>e (h1.trans z);have b:atKey (q::qs) k=atKey qs k:=by simp[atKey,UX,e']
   rw[jG e,b];exact ih
theorem KT.repl(r:KT H kvs xs)(k:List Key)(ry:RelV y u) :
  KT H (kvs.map fun kv=>if kv.1=k then (kv.1,y) else kv) (xs.map (putAt k u)):=by
 induction r with
 |nil=>exact .nil
 |@cons p q ps qs h t ih=>
  rw[PU,PU];refine .cons ?_ ih;obtain⟨h1,h2,h3⟩:=h;unfold putAt;by_cases e:p.1=k
  ·rw[if_pos e,if_pos (h1.symm.trans e)];exact⟨h1,h2,ry⟩
  ·rw[if_neg e,if_neg (fun z=>e (h1.trans z))];exact⟨h1,h2,h3⟩
theorem KT.put(r:KT H kvs xs)(k:List Key){b:Addr}(hb:H b=some (.tup (k.map kV)))(ry:RelV y u) :
  KT H (putK kvs k y) (storedH xs k b u):=by
 have e:(kvs.any fun kv=>decide (kv.1=k))=(atKey xs k).isSome:=by rw[t_,(r.val k).eK,VU]
 unfold putK storedH;rw[e];by_cases q:(atKey xs k).isSome=true
 ·rw[if_pos q,if_pos q];exact r.repl k ry
 ·rw[if_neg q,if_neg q];exact Paired.snoc r ⟨rfl,hb,ry⟩
theorem KT.keeps{H H':Hp}(r:KT H kvs xs)(ht:∀b ys,H b=some (.tup ys)->H' b=some (.tup ys)):KT H' kvs xs:=
 Paired.zU r fun _ _ z=>⟨z.1,ht _ _ z.2.1,z.2.2⟩
end
section
variable{P:Program}{w:World}{H:Hp}{h:Heap}{a:Addr}
section
variable{kvs:List (List Key×V)}
theorem IS{u:HO}(ok:HOk P w H h)(e:Rd H a u):aR P w H h a u:=e.ok ok
theorem lq{kvs:List (Key×V)}(ok:HOk P w H h)(e:Rd H a (.dK kvs)):kvs.length<=sizeLine/\(a == sysModules)=false/\∃vs,KV kvs vs/\h.DictOf (aY P w) a vs:=
 show aR P w H h a (.dK kvs) from IS ok e
theorem yx{kvs:List (Key×V)}(ok:HOk P w H h)(e:H a=some (.dK kvs)):kvs.length<=sizeLine/\(a == sysModules)=false/\∃vs,KV kvs vs/\h.DictOf (aY P w) a vs:=lq ok (.inl e)
theorem kC{ks:List Key}(ok:HOk P w H h)(e:H a=some (.tup (ks.map kV))):(tupleKind (aY P w)).is h ks a:=by
 obtain⟨_,its,r,o,h1,h2,n,h3⟩:=(show aR P w H h a (.tup (ks.map kV)) from ok a _ e)
 exact⟨o,its.toArray,n,h1,h2,h3,by simpa using qo r⟩
theorem mL(ok:HOk P w H h)(e:Rd H a (.dT kvs)):kvs.length<=sizeLine/\(a == sysModules)=false /\
  ∃xs,KT H kvs xs/\h.DictOfH (tupleKind (aY P w)) a xs:=by
 obtain⟨z,y,xs,r,o,es,ep,h1,h2,h3,h4,h5⟩:=(show aR P w H h a (.dT kvs) from IS ok e)
 refine⟨z,y,xs,r,o,es,ep,h1,h2,h3,h4,fun x hx=>?_,h5⟩;have all:∀{l:List (List Key×V)} {m:List (List Key×Addr×Value)},KT H l m->∀x∈m,(tupleKind (aY P w)).is h x.1 x.2.1:=by
  intro l m q
  induction q with
  |nil=>intro x hx;exact nomatch hx
  |@cons p q ps qs hq t ih=>
   intro x hx;rcases Tp.mp hx with e | hx
   ·subst e;exact kC ok (by rw[<- hq.1];exact hq.2.1)
   ·exact ih x hx
 exact all r x hx
theorem OD(ok:HOk P w H h)(e:H a=some (.dT kvs)):kvs.length<=sizeLine/\(a == sysModules)=false /\
  ∃xs,KT H kvs xs/\h.DictOfH (tupleKind (aY P w)) a xs:=mL ok (.inl e)
end
end
section
variable{kvs:List (Key×V)}{a:Addr}{H:Hp}
def fL(H:Hp)(a:Addr)(y:V)(r:Option V):Prop:=
 (∃kvs k,Rd H a (.dK kvs)/\y=kV k/\r=gZ kvs k)\/∃kvs k b,Rd H a (.dT kvs)/\y=.ref b/\H b=some (.tup (k.map kV))/\r=gZ kvs k
def BO(H:Hp)(a:Addr)(y v:V)(H':Hp):Prop:=
 (∃kvs k,H a=some (.dK kvs)/\y=kV k/\kvs.length<sizeLine/\H'=upd H a (.dK (putK kvs k v))) \/
 ∃kvs k b,H a=some (.dT kvs)/\y=.ref b/\H b=some (.tup (k.map kV))/\kvs.length<sizeLine/\H'=upd H a (.dT (putK kvs k v))
theorem fL.k{k:Key}(e:H a=some (.dK kvs)):fL H a (kV k) (gZ kvs k):=.inl ⟨kvs,k,.inl e,rfl,rfl⟩
theorem BO.k{k:Key}{v:V}(e:H a=some (.dK kvs))(hl:kvs.length<sizeLine):BO H a (kV k) v (upd H a (.dK (putK kvs k v))):=.inl ⟨kvs,k,e,rfl,hl,rfl⟩
end
section
variable{X:Cx}{uV:List (Addr×Obj)}{σ:St}{H:Hp}{s:Shared}{a:Addr}{y v:V}{u r:Value}{o:Option V}{A:Around}{E:Value->Shared->Prop}
section
variable{Q:Value->Shared->Prop}{h':Heap}
theorem Inv.big(I:Inv X uV σ H s):sysModules<s.heap.objs.size:=by have h:mainGlobals<s.heap.objs.size:=(I.mod.glob.keeps I.bk).lt;exact Nat.lt_trans (by decide) h
theorem Ae(hu:A.units+1<cLine)(I:Inv X uV σ H s)(g:fL H a y (some v))(ry:RelV y u)(h:∀w' s',Inv X uV σ H s'->RelV v w'->Q w' s') :
  wpAny (model X.prog X.w) A (getItem (.ref a) u) Q E s:=by
 rcases g with⟨kvs,k,e,ey,l⟩ | ⟨kvs,k,b,e,ey,eb,l⟩
 ·subst ey;obtain⟨z,hd,vs,rel,dd⟩:=lq I.hok e;obtain⟨w',hw,rw'⟩:=jx.some_of (v:=v) (o:=valueAt vs k) (by rw[l];exact rel.val k);exact wpAny_getItem_of (lg ry) dd.mapOf hw (h w' _ (I.tok _) rw')
 ·subst ey;cases (show u=TZ b from ry);obtain⟨z,hd,xs,rel,dd⟩:=mL I.hok e;obtain⟨w',hw,rw'⟩:=jx.some_of (v:=v) (o:=(atKey xs k).map (·.2)) (by rw[l];exact rel.val k);obtain⟨p,hp,hp2⟩:=Option.map_eq_some_iff.mp hw;refine wpAny_getItem_heap (tupleKind_room_in1 hu) (kC I.hok eb) dd hp ?_;rw[hp2];exact h w' _ (I.tok _) rw'
theorem Af(hu:A.units+1<cLine)(I:Inv X uV σ H s)(g:fL H a y o)(ry:RelV y u)(h:∀s',Inv X uV σ H s'->Q (.bool o.isSome) s') :
  wpAny (model X.prog X.w) A (compareOp .In u (.ref a)) Q E s:=by
 rcases g with⟨kvs,k,e,ey,l⟩ | ⟨kvs,k,b,e,ey,eb,l⟩
 ·subst ey;obtain⟨z,hd,vs,rel,dd⟩:=lq I.hok e;refine wpAny_in_of (lg ry) hd dd.mapOf ?_;rw[<- (rel.val k).eK,<- l];exact h _ (I.tok _)
 ·subst ey;cases (show u=TZ b from ry);obtain⟨z,hd,xs,rel,dd⟩:=mL I.hok e;refine wpAny_in_heap (tupleKind_room_in1 hu) (kC I.hok eb) hd dd ?_;have q:=(rel.val k).eK;rw[VU]at q;rw[<- q,<- l];exact h _ (I.tok _)
theorem F4(hu:A.units+1<cLine)(I:Inv X uV σ H s)(g:fL H a y o)(ry:RelV y u)(h:∀s',Inv X uV σ H s'->Q (.bool (!o.isSome)) s') :
  wpAny (model X.prog X.w) A (compareOp .NotIn u (.ref a)) Q E s:=by
 rcases g with⟨kvs,k,e,ey,l⟩ | ⟨kvs,k,b,e,ey,eb,l⟩
 ·subst ey;obtain⟨z,hd,vs,rel,dd⟩:=lq I.hok e;refine wpAny_notIn_of (lg ry) hd dd.mapOf ?_;rw[<- (rel.val k).eK,<- l];exact h _ (I.tok _)
 ·subst ey;cases (show u=TZ b from ry);obtain⟨z,hd,xs,rel,dd⟩:=mL I.hok e;refine wpAny_notIn_heap (tupleKind_room_in1 hu) (kC I.hok eb) hd dd ?_;have q:=(rel.val k).eK;rw[VU]at q;rw[<- q,<- l];exact h _ (I.tok _)
theorem lX{t':Nat}{ob:HO}(I:Inv X uV σ H s)(mu:Mut (H a))(hs:VN a s.heap h')(he:∃q,h'.get? a=some q)(new:aR X.prog X.w (upd H a ob) h' a ob) :
  Inv X uV σ (upd H a ob) { s with heap:=h',toks:=t' }:=
 I.write (x:=a) (e:=a) mu (.inl rfl) (fun b q hb z=>(hs.2 b hb).trans z) he new
theorem rM{P:Program}{w:World}{H':Hp}{kvs:List (Key×V)}{vs:List (Key×Value)}(z:kvs.length<=sizeLine)(hd:(a == sysModules)=false)(rel:KV kvs vs)(dd:h'.DictOf (aY P w) a vs) :
  aR P w H' h' a (.dK kvs):=⟨z,hd,vs,rel,dd⟩
theorem Ag{H':Hp}{Q:Unit->Shared->Prop}(hu:A.units+1<cLine)(I:Inv X uV σ H s)(g:BO H a y v H')(ry:RelV y u)(rv:RelV v r)(h:∀s',Inv X uV σ H' s'->Q () s') :
  wpAny (model X.prog X.w) A (setItem (.ref a) u r) Q E s:=by
 rcases g with⟨kvs,k,e,ey,l,eH⟩ | ⟨kvs,k,b,e,ey,eb,l,eH⟩
 ·subst ey eH;obtain⟨z,hd,vs,rel,dd⟩:=yx I.hok e;have hz:vs.length<=sizeLine:=by rw[<- rel.length];exact z
  have hl:(putK kvs k v).length<=sizeLine:=by have:=fP kvs k v;lia
  refine wpAny_setItem_pairs (hsz:=hz) (lg ry) dd fun h' dd' hs=>h _ ?_;have he:∃q,h'.get? a=some q:=let ⟨q,_,_,hq,_⟩:=dd';⟨q,hq⟩
  exact lX I (by rw[e];exact U1) hs he (rM hl hd (rel.put k rv) dd')
 ·subst ey eH;cases (show u=TZ b from ry);obtain⟨z,hd,xs,rel,dd⟩:=OD I.hok e;have hz:xs.length<=sizeLine:=by rw[<- Paired.length rel];exact z
  have hl:(putK kvs k v).length<=sizeLine:=by have:=fP kvs k v;lia
  refine wpAny_setItem_heap (hsz:=hz) (tupleKind_room_in1 hu) (kC I.hok eb) dd fun h' dd' hs=>h _ ?_;obtain⟨q,es,ep,hq,h2,h3,h4,_,h5⟩:=dd';refine lX I (by rw[e];exact U1) hs ⟨q,hq⟩ ⟨hl,hd,_,(rel.put k eb rv).keeps fun c ys ec=>?_,q,es,ep,hq,h2,h3,h4,h5⟩;rw[aj (Oi ec e (fun z=>nomatch z))];exact ec
end
end
section
variable{X:Cx}{uV:List (Addr×Obj)}{σ:St}{H:Hp}{s:Shared}{a:Addr}{kvs:List (Key×V)}{k:Key}{u:Value}{A:Around}{E:Value->Shared->Prop}
theorem OE{v:V}{more:List Value}{Q:Value->Shared->Prop}(I:Inv X uV σ H s)(e:H a=some (.dK kvs))(ry:RelV (kV k) u)(l:gZ kvs k=some v)(hm:more=[]\/∃x,more=[x])
  (h:∀w' s',Inv X uV σ (upd H a (.dK (k_ kvs k))) s'->RelV v w'->Q w' s'):wpAny (model X.prog X.w) A (call (.builtin "dict.pop") (.ref a::u::more)) Q E s:=by
 obtain⟨z,hd,vs,rel,dd⟩:=yx I.hok e;obtain⟨w',hw,rw'⟩:=jx.some_of (v:=v) (o:=valueAt vs k) (by rw[<- l];exact rel.val k);have hp:(keyPart u).isSome=true:=by
  cases k with
  |inl i=>obtain⟨t,q⟩:=(show ∃t,u=Value.int i t from ry);subst q;rfl
  |inr x=>obtain⟨t,q⟩:=(show ∃t,u=WO x t from ry);subst q;rfl
 have ha:argsOk "dict.pop" ⟨.ref a::u::more,[]⟩:=by
  rcases hm with q | ⟨x,q⟩
  ·subst q;exact PySem.F.args_dict_pop_2 _ _
  ·subst q;exact PySem.F.args_dict_pop_3 _ _ _
 refine call_meetsIn PySem.F.slot_dict_pop dd.typeIs PySem.F.entry_dict_pop ha (meets_dict_pop_there (aY X.prog X.w) a (lg ry) more hm hp)
  ⟨vs,w',dd,by rw[<- rel.length];exact z,hw,fun h' dd' hs=>h w' _ ?_ rw'⟩
 have he:∃q,h'.get? a=some q:=let ⟨q,_,_,hq,_⟩:=dd';⟨q,hq⟩
 exact lX I (by rw[e];exact U1) hs he (rM (Nat.le_trans (BN kvs k) z) hd (rel.drop k) dd')
end
def Lf(i:Expr):Prop:=∀ov iv,subscripted i false ov iv=operate [ov,iv] (getItem ov iv)
theorem F5{prog:Program}{w:World}{A:Around}{E:Value->Shared->Prop}{s:Shared}{env:Env}{value slice:Expr}{pos:Pos}{T id:String}{Q:Value->Shared->Prop}
  (hl:typeLookup (.type T) "__getitem__" = pure (some (.builtin id))) (hs:Lf slice)
  (h:wpAny (model prog w) A (eval value env) (fun o s₁=>wpAny (model prog w) A (eval slice env) (fun i s₂=>s₂.TypeIs o T/\wpAny (model prog w) A (getItem o i) Q E s₂) E s₁) E s) :
  wpAny (model prog w) A (eval (.Subscript value slice pos) env) Q E s:=by
 refine Subscript_ (wpAny_mono h (fun o s₁ h₁=>wpAny_mono h₁ (fun i s₂ h₂=>?_) fun _ _ x=>x) fun _ _ x=>x);obtain⟨hT,h₂⟩:=h₂;unfold subscriptTail;refine wpAny_bind ?_;rw[getitemInPython_of_ne hT.not_modules];refine wpAny_bind (wpAny_specialOf hT hl ?_);have HB:wpAny (model prog w) A (subscripted slice false o i) (fun r s₃=>wpAny (model prog w) A (letTemporaryGo value o r >>= fun _=>pure r) Q E s₃) E s₂:=by rw[hs o i];exact wpAny_operating (wpAny_mono h₂ (fun r s₃ h₃=>wpAny_bind (wpAny_letTemporaryGo (wpAny_pure h₃))) fun _ _ x=>x)
 first
  |exact wpAny_pure (wpAny_bind HB)
  |exact wpAny_bind (wpAny_pure (wpAny_bind HB))
  |exact wpAny_bind HB
theorem ua{X:Cx}{uV:List (Addr×Obj)}{σ:St}{H:Hp}{s:Shared}{a:Addr}{y:V}{o:Option V}(I:Inv X uV σ H s)(g:fL H a y o):s.TypeIs (.ref a) "dict" := by
 rcases g with⟨kvs,k,e,_,_⟩ | ⟨kvs,k,b,e,_,_,_⟩
 ·obtain⟨_,_,vs,_,dd⟩:=lq I.hok e;exact dd.typeIs
 ·obtain⟨_,_,xs,_,dd⟩:=mL I.hok e;exact dd.typeIs
def OG(td ty:TE):TE:=fun σ H Q=>td σ H fun x H1=>ty σ H1 fun y H2=>∃a v,x=.ref a/\fL H2 a y (some v)/\Q v H2
def RS(ty td:TE):TE:=fun σ H Q=>ty σ H fun y H1=>td σ H1 fun x H2=>∃a o,x=.ref a/\fL H2 a y o/\Q (.bl o.isSome) H2
def F6(ty td:TE):TE:=fun σ H Q=>ty σ H fun y H1=>td σ H1 fun x H2=>∃a o,x=.ref a/\fL H2 a y o/\Q (.bl (!o.isSome)) H2
def IT(td ty tv:TE):TS:=fun D σ H=>tv σ H fun v H1=>td σ H1 fun x H2=>ty σ H2 fun y H3=>∃a H4,x=.ref a/\BO H3 a y v H4/\D.nx σ H4
section
variable{X:Cx}{o i e value:Expr}{pos pos' tpos:Pos}{td ty tv:TE}
theorem F7(hu:X.A.units+1<cLine)(ho:PE X o td)(hi:PE X i ty)(hs:Lf i):PE X (.Subscript o i pos) (OG td ty):=by intro uV s σ H Q I h;refine F5 PySem.F.slot_dict_getitem.lookup hs (thn (ho uV s σ H _ I h) fun u s1 ⟨x,H1,I1,rx,q1⟩=>thn (hi uV s1 σ H1 _ I1 q1) fun iv s2 ⟨y,H2,I2,ry,a,v,ex,g,q2⟩=>?_);subst ex;obtain rfl:u=TZ a:=rx;exact⟨ua I2 g,Ae hu I2 g ry fun w' s3 I3 rw'=>⟨v,H2,I3,rw',q2⟩⟩
theorem Lg(hu:X.A.units+1<cLine)(hi:PE X i ty)(ho:PE X o td):PC X .In i o (RS ty td):=by intro uV s σ H Q I h;refine thn (hi uV s σ H _ I h) fun iv s1 ⟨y,H1,I1,ry,q1⟩=>thn (ho uV s1 σ H1 _ I1 q1) fun u s2 ⟨x,H2,I2,rx,a,ov,ex,g,q2⟩=>?_;subst ex;obtain rfl:u=TZ a:=rx;exact Af hu I2 g ry fun s3 I3=>⟨.bl ov.isSome,H2,I3,rfl,q2⟩
theorem Ah(hu:X.A.units+1<cLine)(hi:PE X i ty)(ho:PE X o td):PC X .NotIn i o (F6 ty td):=by intro uV s σ H Q I h;refine thn (hi uV s σ H _ I h) fun iv s1 ⟨y,H1,I1,ry,q1⟩=>thn (ho uV s1 σ H1 _ I1 q1) fun u s2 ⟨x,H2,I2,rx,a,ov,ex,g,q2⟩=>?_;subst ex;obtain rfl:u=TZ a:=rx;exact F4 hu I2 g ry fun s3 I3=>⟨.bl (!ov.isSome),H2,I3,rfl,q2⟩
theorem F8(hu:X.A.units+1<cLine)(ho:PE X o td)(hi:PE X i ty)(hv:PE X value tv)(hs:swapsWith value (some (.Subscript o i pos')) pos.line X.env=pure false) :
  PS X (.Assign [.Subscript o i pos'] value pos) (IT td ty tv):=by
 intro uV s σ H D I h;refine wpAny_Assign_Subscript (thn (hv uV s σ H _ I h) fun r s1 ⟨v,H1,I1,rv,q1⟩=>thn (ho uV s1 σ H1 _ I1 q1) fun u s2 ⟨x,H2,I2,rx,q2⟩=>thn (hi uV s2 σ H2 _ I2 q2) fun iv s3 ⟨y,H3,I3,ry,a,H4,ex,g,q3⟩=>?_) hs;subst ex;obtain rfl:u=TZ a:=rx;exact Ag hu I3 g ry rv fun s4 I4=>⟨σ,H4,I4,q3⟩
end
theorem uc{P:Program}{w:World}{H:Hp}(h:Heap)(hb:sysModules<h.objs.size):aR P w H (h.push { cls:=.type "dict",data:=.dict #[] }) h.objs.size (.dK []):=
 ⟨T8 _,beq_eq_false_iff_ne.mpr (Ue (Tu hb)),[],.nil,Heap.DictOf.new h⟩
def BP:TE:=fun _ H Q=>∀p,H p=none->Q (.ref p) (upd H p (.dK []))
section
variable{X:Cx}{pos:Pos}
theorem BQ:PE X (.Dict [] [] pos) BP:=fun uV s σ H Q I h=>wpAny_Dict_empty ⟨.ref s.heap.objs.size,_,I.laid (a:=s.heap.objs.size) (o:=.dK []) (t':=s.toks) (fun _ _ q=>gV _ q) (Nat.le_refl _) (uc s.heap I.big),rfl,h _ (I.hok.fresh (Nat.le_refl _))⟩
end
section
variable{trs:List (TE×TE)}{pos:Pos}{X:Cx}
def wO:List (TE×TE)->St->Hp->(List (V×V)->Hp->Prop)->Prop
 |[],_,H,Q=>Q [] H
 |(tk,tv)::r,σ,H,Q=>tk σ H fun x H1=>tv σ H1 fun y H2=>wO r σ H2 fun ps H3=>Q ((x,y)::ps) H3
noncomputable abbrev VV:List (V×V)->List (Value×Value)->Prop:=Paired fun p q=>RelV p.1 q.1/\RelV p.2 q.2
def PPs(X:Cx)(pos:Pos)(keys:List (Option Expr))(values:List Expr)(trs:List (TE×TE)):Prop:=
 ∀(uV:List (Addr×Obj)) (s:Shared) (σ:St) (H:Hp) (Q:List (V×V)->Hp->Prop),Inv X uV σ H s->wO trs σ H Q ->
  wpAny (model X.prog X.w) X.A (evalPairs (pairTrees keys values X.env pos)) (fun vs s'=>∃ps H',Inv X uV σ H' s'/\VV ps vs/\Q ps H') X.xe s
theorem F9:PPs X pos [] [] []:=fun uV s σ H Q I h=>pairTrees_nil_walk ⟨[],H,I,.nil,h⟩
theorem BR{k v:Expr}{ks:List (Option Expr)}{vs:List Expr}{tk tv:TE}(hk:PE X k tk)(hv:PE X v tv)(hr:PPs X pos ks vs trs) :
  PPs X pos (some k::ks) (v::vs) ((tk,tv)::trs):=fun uV s σ H Q I h=>
 pairTrees_cons_walk (thn (hk uV s σ H _ I h) fun u s1 ⟨x,H1,I1,rx,q1⟩=>thn (hv uV s1 σ H1 _ I1 q1) fun w2 s2 ⟨y,H2,I2,ry,q2⟩=>thn (hr uV s2 σ H2 _ I2 q2) fun ws s3 ⟨ps,H3,I3,rel,q3⟩=>⟨(x,y)::ps,H3,I3,.cons ⟨rx,ry⟩ rel,q3⟩)
noncomputable def kD(kvs more:List (Key×V)):List (Key×V):=more.foldl (fun DZ kv=>putK DZ kv.1 kv.2) kvs
theorem KV.merge:∀{more:List (Key×V)} {rs:List (Key×Value)} {kvs:List (Key×V)} {vs:List (Key×Value)},KV more rs->KV kvs vs->KV (kD kvs more) (merged vs rs):=by
 intro more rs kvs vs r;unfold KV at r
 induction r generalizing kvs vs with
 |nil=>intro q;exact q
 |@cons p q ps qs h t ih=>
  intro r0;have e:KV (putK kvs p.1 p.2) (stored vs q.1 q.2):=by have:=r0.put p.1 h.2;rw[<- h.1];exact this
  exact ih e
theorem gK:∀(more kvs:List (Key×V)),(kD kvs more).length<=kvs.length+more.length
 |[],kvs=>by show kvs.length<=kvs.length+0;lia
 |p::r,kvs=>by have h1:=gK r (putK kvs p.1 p.2);have h2:=fP kvs p.1 p.2;show (kD (putK kvs p.1 p.2) r).length<=_;rw[Uy];lia
theorem mQ{P:Program}{w:World}:∀{kvs:List (Key×V)} {ws:List (Value×Value)},VV (kvs.map fun kv=>(kV kv.1,kv.2)) ws->∃rs,Carries (aY P w) ws rs/\KV kvs rs
 |[],_,r=>by rw[Xd]at r;cases r;exact⟨[],U1,.nil⟩
 |p::kvs,_,r=>by
  rw[PU]at r;cases r with
  |@cons a b as bs h t=>obtain⟨rs,c,q⟩:=mQ (P:=P) (w:=w) t;obtain⟨b1,b2⟩:=b;exact⟨(p.1,b2)::rs,⟨lg h.1,rfl,c⟩,.cons ⟨rfl,h.2⟩ q⟩
def IU(trs:List (TE×TE)):TE:=fun σ H Q=>∀p,H p=none->wO trs σ (upd H p (.dK [])) fun ps H2=>H2 p=some (.dK [])/\∃kvs:List (Key×V),ps=kvs.map (fun kv=>(kV kv.1,kv.2))/\kvs.length<=15/\Q (.ref p) (upd H2 p (.dK (kD [] kvs)))
theorem F_{keys:List (Option Expr)}{values:List Expr}(h:PPs X pos keys values trs)(hall:keys.all (·.isSome)=true)(hl:keys.length=values.length)(h0:keys≠[])
  (h15:keys.length<=15):PE X (.Dict keys values pos) (IU trs):=by
 intro uV s σ H Q I q;have hn:=I.hok.fresh (Nat.le_refl s.heap.objs.size);have I1:=I.laid (a:=s.heap.objs.size) (o:=.dK []) (h':=s.heap.push { cls:=.type "dict",data:=.dict #[] }) (t':=s.toks) (fun _ _ q=>gV _ q) (Nat.le_refl _) (uc s.heap I.big);refine wpAny_Dict_walk (knd:=aY X.prog X.w) hall hl h0 h15 (thn (h uV _ σ _ _ I1 (q _ hn)) fun ws s2 ⟨ps,H2,I2,rel,e,kvs,ep,lk,q2⟩=>?_);subst ep;obtain⟨rs,c,rk⟩:=mQ (P:=X.prog) (w:=X.w) rel;obtain⟨z,hd,vs0,r0,dd⟩:=yx I2.hok e;cases r0;refine⟨rs,c,dd,fun h' dd' hs=>⟨.ref s.heap.objs.size,_,?_,rfl,q2⟩⟩;have hz:(kD [] kvs).length<=sizeLine:=by have h1:=gK kvs [];rw[WU]at h1;rw[sizeLine_eq];lia
 have he:∃q,h'.get? s.heap.objs.size=some q:=let ⟨q,_,_,hq,_⟩:=dd';⟨q,hq⟩
 exact lX I2 (by rw[e];exact U1) hs he (rM hz hd (rk.merge .nil) dd')
structure M1(X:Cx)(o:Expr)(m:Str)(Qp:Pos)(e:Expr)(cpos:Pos):Prop where
 base:attributeBase o m X.env (eval o X.env)=eval o X.env
 few:((backTo cpos (starEach [e] X.env)).all (fun x=>!x.1)&&(backToKw cpos (keywordEach [] X.env)).all (fun x=>x.1.isSome)
  && decide (([e]:List Expr).length+([]:List Keyword).length+(if ([]:List Keyword).isEmpty then 0 else 1)<30))=true
 line:(Qp.endLine == cpos.line)=true
 trees:backTo cpos (starEach [e] X.env)=[(false,eval e X.env)]
def IsD(H:Hp)(a:Addr):Prop:=(∃kvs,Rd H a (.dK kvs))\/∃kvs,Rd H a (.dT kvs)
theorem BS{uV:List (Addr×Obj)}{σ:St}{H:Hp}{s:Shared}{a:Addr}(I:Inv X uV σ H s)(d:IsD H a) :
  s.TypeIs (.ref a) "dict" /\ (∀b,TZ a=.ref b->∃ob,s.heap.get? b=some ob/\ob.dict=none)/\(a == sysModules)=false:=by
 rcases d with⟨kvs,e⟩ | ⟨kvs,e⟩
 ·obtain⟨_,hd,vs,_,dd⟩:=lq I.hok e;refine⟨dd.typeIs,fun b q=>?_,hd⟩;cases q;obtain⟨ob,_,_,h1,h2,_⟩:=dd;exact⟨ob,h1,h2.2.1⟩
 ·obtain⟨_,hd,xs,_,dd⟩:=mL I.hok e;refine⟨dd.typeIs,fun b q=>?_,hd⟩;cases q;obtain⟨ob,_,_,h1,h2,_⟩:=dd;exact⟨ob,h1,h2.2.1⟩
end
section
variable{X:Cx}{uV:List (Addr×Obj)}{σ:St}{H:Hp}{s:Shared}{a:Addr}{y d:V}{u r:Value}{o:Option V}{A:Around}{E:Value->Shared->Prop}
theorem Lh{Q:Value->Shared->Prop}(hu:A.units+1<cLine)(I:Inv X uV σ H s)(g:fL H a y o)(ry:RelV y u)(h:∀w' s',Inv X uV σ H s'->RelV (o.getD .non) w'->Q w' s') :
  wpAny (model X.prog X.w) A (call (.builtin "dict.get") [.ref a,u]) Q E s:=by
 rcases g with⟨kvs,k,e,ey,l⟩ | ⟨kvs,k,b,e,ey,eb,l⟩
 ·subst ey;obtain⟨z,hd,vs,rel,dd⟩:=lq I.hok e;refine call_meetsIn V7 dd.typeIs PySem.F.entry_dict_get (PySem.F.args_dict_get_2 _ _) (meets_dict_get (aY X.prog X.w) a (lg ry) hd) ⟨_,dd.mapOf,h _ _ (I.tok _) ?_⟩;rw[l];exact(rel.val k).getD rfl
 ·subst ey;cases (show u=TZ b from ry);obtain⟨z,hd,xs,rel,dd⟩:=mL I.hok e;refine call_meetsIn V7 dd.typeIs PySem.F.entry_dict_get (PySem.F.args_dict_get_2 _ _) (meetsH_dict_get (tupleKind (aY X.prog X.w)) a b hd) ⟨tupleKind_room_in1 hu,k,xs,kC I.hok eb,dd,h _ _ (I.tok _) ?_⟩;rw[l];exact(rel.val k).getD rfl
end
def BU(td ty:TE):TE:=fun σ H Q=>td σ H fun x H1=>∃a,x=.ref a/\IsD H1 a/\ty σ H1 fun y H2=>∃o,fL H2 a y o/\Q (o.getD .non) H2
def BV(td ty:TE):TE:=fun σ H Q=>td σ H fun x H1=>∃a,x=.ref a/\IsD H1 a/\ty σ H1 fun y H2=>∃kvs k v,H2 a=some (.dK kvs)/\y=kV k/\gZ kvs k=some v/\Q v (upd H2 a (.dK (k_ kvs k)))
section
variable{X:Cx}{o e f:Expr}{Qp cpos:Pos}{td ty tx:TE}
theorem BW(hu:X.A.units+1<cLine)(ho:PE X o td)(he:PE X e ty)(m:M1 X o "get" Qp e cpos):PE X (.Call (.Attribute o "get" Qp) [e] [] cpos) (BU td ty):=by intro uV s σ H Q I h;refine wpAny_Call_method m.base m.few m.line PySem.F.plainAttrs_dict V7 PySem.F.type_dict_get (thn (ho uV s σ H _ I h) fun u s1 ⟨x,H1,I1,rx,a,ex,d,q1⟩=>?_);subst ex;obtain rfl:u=TZ a:=rx;obtain⟨t1,t2,_⟩:=BS I1 d;refine⟨t1,t2,?_⟩;rw[m.trees];refine V0 rfl (Wa (Ww (thn (he uV s1 σ H1 _ I1 q1) fun iv s2 ⟨y,H2,I2,ry,ov,g,q2⟩=>U5 ?_)));exact Lh hu I2 g ry fun w' s3 I3 rw'=>⟨_,H2,I3,rw',q2⟩
theorem BX(ho:PE X o td)(he:PE X e ty)(m:M1 X o "pop" Qp e cpos):PE X (.Call (.Attribute o "pop" Qp) [e] [] cpos) (BV td ty):=by intro uV s σ H Q I h;refine wpAny_Call_method m.base m.few m.line PySem.F.plainAttrs_dict PySem.F.slot_dict_pop PySem.F.type_dict_pop (thn (ho uV s σ H _ I h) fun u s1 ⟨x,H1,I1,rx,a,ex,d,q1⟩=>?_);subst ex;obtain rfl:u=TZ a:=rx;obtain⟨t1,t2,_⟩:=BS I1 d;refine⟨t1,t2,?_⟩;rw[m.trees];refine V0 rfl (Wa (Ww (thn (he uV s1 σ H1 _ I1 q1) fun iv s2 ⟨y,H2,I2,ry,kvs,k,v,ea,ey,l,q2⟩=>U5 ?_)));subst ey;exact OE I2 ea ry l (.inl rfl) fun w' s3 I3 rw'=>⟨v,_,I3,rw',q2⟩
end
section
variable{X:Cx}{uV:List (Addr×Obj)}{σ:St}{H:Hp}{s:Shared}{a:Addr}{kvs:List (Key×V)}{A:Around}{E:Value->Shared->Prop}
theorem BY{Q:Value->Shared->Prop}(I:Inv X uV σ H s)(e:Rd H a (.dK kvs))(h:∀p s',H p=none->Inv X uV σ (upd H p (.dK kvs)) s'->Q (.ref p) s'):wpAny (model X.prog X.w) A (call (.type "dict") [.ref a]) Q E s:=by obtain⟨z,hd,vs,rel,dd⟩:=lq I.hok e;refine kt_call_dict hd dd (by rw[<- rel.length];exact z) fun h' dd' hs=>?_;refine h _ _ (I.hok.fresh (Nat.le_refl _)) (I.laid (a:=s.heap.objs.size) (o:=.dK kvs) (t':=s.toks) (fun b q hq=>?_) (Nat.le_refl _) (rM z (beq_eq_false_iff_ne.mpr (Ue (Tu I.big))) rel dd'));exact(hs.2 b (Tu (Tn hq))).trans (gV _ hq)
end
end L2
namespace Dm
inductive Dat where
 |non
 |bl (b:Bool)
 |int (i:Int)
 |str (s:List Nat)
 |tup (xs:List Dat)
 |lst (xs:List Dat)
 |dct (ks:List Int) (vs:List Dat)
 |exc (C:Nat)
 |fn (a:Nat)
deriving Inhabited
inductive Cell where
 |un
 |sh (d:Dat)
 |ow (d:Dat)
deriving Inhabited
noncomputable abbrev Env:=List Cell
inductive Val where
 |val (d:Dat)
 |slot (i:Nat)
 |new (d:Dat)
inductive RV where
 |val (d:Dat)
 |new (d:Dat)
noncomputable def RV.dat:RV->Dat
 |.val d=>d
 |.new d=>d
noncomputable def RV.bH:RV->Val
 |.val d=>.val d
 |.new d=>.new d
noncomputable def SZ:Nat:=100000
noncomputable def fH:Dat->Bool
 |.tup _=>true
 |.lst _=>true
 |.dct _ _=>true
 |.exc _=>true
 |_=>false
noncomputable def pk(ρ:Env):Val->Option Dat
 |.val d=>some d
 |.new d=>some d
 |.slot i=>match ρ[i]? with
  |some (.ow d)=>some d
  |some (.sh d)=>some d
  |_=>none
noncomputable def tk(ρ:Env):Val->Option (Dat×Env)
 |.val d=>some (d,ρ)
 |.new d=>some (d,ρ)
 |.slot i=>match ρ[i]? with
  |some (.ow d)=>some (d,ρ.set i (.sh d))
  |some (.sh d)=>some (d,ρ)
  |_=>none
noncomputable def pks(ρ:Env):List Val->Option (List Dat)
 |[]=>some []
 |x::r=>match pk ρ x with
  |none=>none
  |some d=>match pks ρ r with
   |none=>none
   |some ds=>some (d::ds)
noncomputable def tks(ρ:Env):List Val->Option (List Dat×Env)
 |[]=>some ([],ρ)
 |x::r=>match tk ρ x with
  |none=>none
  |some (d,ρ1)=>match tks ρ1 r with
   |none=>none
   |some (ds,ρ2)=>some (d::ds,ρ2)
noncomputable abbrev FE:=Env->Option (Val×Env)
noncomputable abbrev FT:=Env->Option (Bool×Env)
noncomputable def eC(d:Dat):FE:=fun ρ=>some (.val d,ρ)
noncomputable def eV(i:Nat):FE:=fun ρ=>match ρ[i]? with
 |some (.sh d)=>some (.val d,ρ)
 |some (.ow _)=>some (.slot i,ρ)
 |_=>none
noncomputable def e1(g:Dat->Option RV)(a:FE):FE:=fun ρ=>match a ρ with
 |none=>none
 |some (x,ρ1)=>match pk ρ1 x with
  |none=>none
  |some d=>match g d with
   |none=>none
   |some v=>some (v.bH,ρ1)
noncomputable def e2(g:Dat->Dat->Option RV)(a b:FE):FE:=fun ρ=>match a ρ with
 |none=>none
 |some (x,ρ1)=>match b ρ1 with
  |none=>none
  |some (y,ρ2)=>match pk ρ2 x with
   |none=>none
   |some d=>match pk ρ2 y with
    |none=>none
    |some e=>match g d e with
     |none=>none
     |some v=>some (v.bH,ρ2)
noncomputable def eAs:List FE->Env->Option (List Val×Env)
 |[],ρ=>some ([],ρ)
 |a::r,ρ=>match a ρ with
  |none=>none
  |some (x,ρ1)=>match eAs r ρ1 with
   |none=>none
   |some (xs,ρ2)=>some (x::xs,ρ2)
noncomputable def eB(g:List Dat->Option RV)(as:List FE):FE:=fun ρ=>match eAs as ρ with
 |none=>none
 |some (xs,ρ1)=>match pks ρ1 xs with
  |none=>none
  |some ds=>match g ds with
   |none=>none
   |some v=>some (v.bH,ρ1)
noncomputable def bg(as:List FE):FE:=fun ρ=>match eAs as ρ with
 |none=>none
 |some (xs,ρ1)=>match tks ρ1 xs with
  |none=>none
  |some (ds,ρ2)=>if ds.length<=SZ then some (.val (.tup ds),ρ2) else none
noncomputable def bA(as:List FE):FE:=fun ρ=>match eAs as ρ with
 |none=>none
 |some (xs,ρ1)=>match tks ρ1 xs with
  |none=>none
  |some (ds,ρ2)=>if ds.length<=SZ then some (.new (.lst ds),ρ2) else none
noncomputable def eF(f:List Dat->Option RV)(as:List FE):FE:=fun ρ=>match eAs as ρ with
 |none=>none
 |some (xs,ρ1)=>match pks ρ1 xs with
  |none=>none
  |some ds=>match f ds with
   |none=>none
   | some v=>if fH v.dat then (match tks ρ1 xs with
     |none=>none
     |some (_,ρ2)=>some (v.bH,ρ2)) else some (v.bH,ρ1)
noncomputable def eIf(t:FT)(a b:FE):FE:=fun ρ=>match t ρ with
 |none=>none
 |some (true,ρ1)=>a ρ1
 |some (false,ρ1)=>b ρ1
noncomputable def dO(a b:FE):FE:=fun ρ=>match a ρ with
 |some (.val (.bl true),ρ1)=>b ρ1
 |some (.val (.bl false),ρ1)=>some (.val (.bl false),ρ1)
 |_=>none
noncomputable def Ai(a:FE):FE:=fun ρ=>match a ρ with
 |some (.val (.bl c),ρ1)=>some (.val (.bl (!c)),ρ1)
 |_=>none
noncomputable def tV(a:FE):FT:=fun ρ=>match a ρ with
 |some (.val (.bl c),ρ1)=>some (c,ρ1)
 |_=>none
noncomputable def eU(t:FT):FT:=fun ρ=>match t ρ with
 |some (c,ρ1)=>some (!c,ρ1)
 |none=>none
noncomputable def wG(t u:FT):FT:=fun ρ=>match t ρ with
 |some (true,ρ1)=>u ρ1
 |some (false,ρ1)=>some (false,ρ1)
 |none=>none
noncomputable def tOr(t u:FT):FT:=fun ρ=>match t ρ with
 |some (true,ρ1)=>some (true,ρ1)
 |some (false,ρ1)=>u ρ1
 |none=>none
noncomputable def truth:Dat->Option Bool
 |.non=>some false
 |.bl b=>some b
 |.int i=>some (i != 0)
 |.tup xs=>some (!xs.isEmpty)
 |.lst xs=>some (!xs.isEmpty)
 |_=>none
noncomputable def tTr(a:FE):FT:=fun ρ=>match a ρ with
 |none=>none
 |some (x,ρ1)=>match pk ρ1 x with
  |none=>none
  |some d=>match truth d with
   |none=>none
   |some c=>some (c,ρ1)
noncomputable def bI:FT:=fun ρ=>some (true,ρ)
noncomputable abbrev FI:=Env->Option (List Dat×Env)
noncomputable def iL(a:FE):FI:=fun ρ=>match a ρ with
 |none=>none
 |some (x,ρ1)=>match tk ρ1 x with
  |some (.lst ds,ρ2)=>some (ds,ρ2)
  |_=>none
noncomputable def iT(a:FE):FI:=fun ρ=>match a ρ with
 |none=>none
 |some (x,ρ1)=>match tk ρ1 x with
  |some (.tup ds,ρ2)=>some (ds,ρ2)
  |_=>none
noncomputable def iS(a:FE):FI:=fun ρ=>match a ρ with
 |none=>none
 |some (x,ρ1)=>match tk ρ1 x with
  |some (.lst ds,ρ2)=>some (ds,ρ2)
  |some (.tup ds,ρ2)=>some (ds,ρ2)
  |_=>none
noncomputable def ups(lo:Int)(n:Nat):List Dat:=(TV n).map fun i=>Dat.int (lo+(i:Nat))
noncomputable def downs(hi:Int)(n:Nat):List Dat:=(TV n).map fun i=>Dat.int (hi-(i:Nat))
noncomputable def BIG:Int:=1000000000
noncomputable def iR1(a:FE):FI:=fun ρ=>match a ρ with
 |some (.val (.int j),ρ1)=>if j<=BIG/\-BIG<=j then some (ups 0 j.toNat,ρ1) else none
 |_=>none
noncomputable def iR2(a b:FE):FI:=fun ρ=>match a ρ with
 | some (.val (.int i),ρ1)=>(match b ρ1 with
  |some (.val (.int j),ρ2)=>if j<=BIG/\-BIG<=j/\i<=BIG/\-BIG<=i then some (ups i (j-i).toNat,ρ2) else none
  |_=>none)
 |_=>none
noncomputable abbrev FB:=Dat->Env->Option Env
noncomputable def bN(i:Nat):FB:=fun d ρ=>if i=0 then none else some (ρ.set i (.sh d))
noncomputable def sets:List Nat->List Dat->Env->Option Env
 |[],[],ρ=>some ρ
 |i::is,d::ds,ρ=>if i=0 then none else sets is ds (ρ.set i (.sh d))
 |_,_,_=>none
noncomputable def bT(is:List Nat):FB:=fun d ρ=>match d with
 |.tup ds=>sets is ds ρ
 |_=>none
noncomputable def cK(bd:FB)(t:FT)(el:FE):List Dat->Env->List Dat->Option (List Dat×Env)
 |[],ρ,DZ=>some (DZ,ρ)
 |d::r,ρ,DZ=>match bd d ρ with
  |none=>none
  |some ρ1=>match t ρ1 with
   |none=>none
   |some (false,ρ2)=>cK bd t el r ρ2 DZ
   |some (true,ρ2)=>match el ρ2 with
    |none=>none
    |some (x,ρ3)=>match tk ρ3 x with
     |none=>none
     |some (y,ρ4)=>cK bd t el r ρ4 (DZ++[y])
noncomputable def bO(it:FI)(own:Nat)(bd:FB)(t:FT)(el:FE):FE:=fun ρ=>match it ρ with
 |none=>none
 | some (ds,ρ1)=>if ds.length≤SZ then (match cK bd t el ds (ρ1++Dk own .un) [] with
  |none=>none
  |some (ys,ρ2)=>some (.new (.lst ys),ρ2.take ρ1.length)) else none
inductive Out where
 |nx (ρ:Env)
 |ret (r:RV) (ρ:Env)
 |bk (ρ:Env)
 |ct (ρ:Env)
noncomputable abbrev FS:=Env->Option Out
noncomputable def sNx:FS:=fun ρ=>some (.nx ρ)
noncomputable def aB(s u:FS):FS:=fun ρ=>match s ρ with
 |some (.nx ρ1)=>u ρ1
 |o=>o
noncomputable def sA(i:Nat)(e:FE):FS:=fun ρ=>if i=0 then none else match e ρ with
 |none=>none
 |some (.new d,ρ1)=>some (.nx (ρ1.set i (.ow d)))
 |some (x,ρ1)=>match tk ρ1 x with
  |none=>none
  |some (d,ρ2)=>some (.nx (ρ2.set i (.sh d)))
noncomputable def sU(is:List Nat)(e:FE):FS:=fun ρ=>match e ρ with
 |none=>none
 |some (x,ρ1)=>match tk ρ1 x with
  | some (.tup ds,ρ2)=>(match sets is ds ρ2 with
   |none=>none
   |some ρ3=>some (.nx ρ3))
  |_=>none
noncomputable def sE(e:FE):FS:=fun ρ=>match e ρ with
 |none=>none
 |some (_,ρ1)=>some (.nx ρ1)
noncomputable def sR(e:FE):FS:=fun ρ=>match e ρ with
 |none=>none
 |some (.new d,ρ1)=>some (.ret (.new d) ρ1)
 |some (.val d,ρ1)=>some (.ret (.val d) ρ1)
 |some (.slot i,ρ1)=>match ρ1[i]? with
  |some (.ow d)=>some (.ret (.new d) (ρ1.set i .un))
  |some (.sh d)=>some (.ret (.val d) ρ1)
  |_=>none
noncomputable def sIf(t:FT)(a b:FS):FS:=fun ρ=>match t ρ with
 |none=>none
 |some (true,ρ1)=>a ρ1
 |some (false,ρ1)=>b ρ1
noncomputable def pV(i:Nat)(e:FE):FS:=fun ρ=>match ρ[i]? with
 | some (.ow (.lst _))=>(match e ρ with
  |none=>none
  |some (x,ρ1)=>match tk ρ1 x with
   |none=>none
   |some (d,ρ2)=>match ρ2[i]? with
    |some (.ow (.lst ds))=>if ds.length<SZ then some (.nx (ρ2.set i (.ow (.lst (ds++[d]))))) else none
    |_=>none)
 |_=>none
noncomputable def ixN(n:Nat)(i:Int):Option Nat:=
 if 0<=i then (if i<n then some i.toNat else none) else if -(n:Int)<=i then some (i+n).toNat else none
noncomputable def wQ(i:Nat)(j e:FE):FS:=fun ρ=>match e ρ with
 |none=>none
 |some (x,ρ1)=>match tk ρ1 x with
  |none=>none
  |some (d,ρ2)=>match ρ2[i]? with
   | some (.ow _)=>(match j ρ2 with
    | some (.val (.int k),ρ3)=>(match ρ3[i]? with
     | some (.ow (.lst ds))=>(match ixN ds.length k with
      |none=>none
      |some m=>some (.nx (ρ3.set i (.ow (.lst (ds.set m d))))))
     |_=>none)
    |_=>none)
   |_=>none
noncomputable def kE(bd:FB)(body:FS):List Dat->FS
 |[],ρ=>some (.nx ρ)
 |d::r,ρ=>match bd d ρ with
  |none=>none
  |some ρ1=>match body ρ1 with
   |some (.nx ρ2)=>kE bd body r ρ2
   |some (.ct ρ2)=>kE bd body r ρ2
   |some (.bk ρ2)=>some (.nx ρ2)
   |some (.ret v ρ2)=>some (.ret v ρ2)
   |none=>none
noncomputable def dP(it:FI)(bd:FB)(body:FS):FS:=fun ρ=>match it ρ with
 |none=>none
 |some (ds,ρ1)=>kE bd body ds ρ1
noncomputable def whD(t:FT)(body:FS):Nat->FS
 |0,_=>none
 |n+1,ρ=>match t ρ with
  |none=>none
  |some (false,ρ1)=>some (.nx ρ1)
  |some (true,ρ1)=>match body ρ1 with
   |some (.nx ρ2)=>whD t body n ρ2
   |some (.ct ρ2)=>whD t body n ρ2
   |some (.bk ρ2)=>some (.nx ρ2)
   |some (.ret v ρ2)=>some (.ret v ρ2)
   |none=>none
noncomputable def fn(n m:Nat)(body:FS)(ds:List Dat):Option RV:=if ds.length=n then (match body (ds.map Cell.sh++Dk m .un) with
 |some (.ret r _)=>some r
 |some (.nx _)=>some (.val .non)
 |_=>none) else none
noncomputable def b2i(b:Bool):Int:=if b then 1 else 0
mutual
noncomputable def eqD:Dat->Dat->Bool
 |.non,.non=>true
 |.bl a,.bl b=>a == b
 |.bl a,.int j=>b2i a == j
 |.int i,.bl b=>i == b2i b
 |.int i,.int j=>i == j
 |.str a,.str b=>a == b
 |.tup xs,.tup ys=>lS xs ys
 |.lst xs,.lst ys=>lS xs ys
 |_,_=>false
noncomputable def lS:List Dat->List Dat->Bool
 |[],[]=>true
 |x::xs,y::ys=>eqD x y&&lS xs ys
 |_,_=>false
end
noncomputable def okD:Nat->Dat->Bool
 |_,.dct _ _=>false
 |_,.exc _=>false
 |_,.fn _=>false
 |_,.str s=>s.all fun c=>decide (c<128)
 |0,.tup _=>false
 |0,.lst _=>false
 |n+1,.tup xs=>xs.all (okD n)
 |n+1,.lst xs=>xs.all (okD n)
 |_,_=>true
noncomputable abbrev vB(b:Bool):Option RV:=some (.val (.bl b))
noncomputable def mR(p:Dat->Bool):Dat->Option RV
 |.exc _=>none
 |.fn _=>none
 |d=>vB (p d)
noncomputable abbrev vI(i:Int):Option RV:=some (.val (.int i))
noncomputable def gEq(x y:Dat):Option RV:=if okD 8 x&&okD 8 y then vB (eqD x y) else none
noncomputable def gNe(x y:Dat):Option RV:=if okD 8 x&&okD 8 y then vB (!eqD x y) else none
noncomputable def gLt:Dat->Dat->Option RV
 |.int i,.int j=>vB (decide (i<j))
 |_,_=>none
noncomputable def gLe:Dat->Dat->Option RV
 |.int i,.int j=>vB (decide (i<=j))
 |_,_=>none
noncomputable def gGt:Dat->Dat->Option RV
 |.int i,.int j=>vB (decide (j<i))
 |_,_=>none
noncomputable def gGe:Dat->Dat->Option RV
 |.int i,.int j=>vB (decide (j<=i))
 |_,_=>none
noncomputable def B64:Int:=18446744073709551616
noncomputable def bS:Dat->Dat->Option RV
 |.int i,.int j=>vI (i+j)
 |.lst xs,.lst ys=>if xs.length+ys.length<=SZ then some (.new (.lst (xs++ys))) else none
 |_,_=>none
noncomputable def jC:Dat->Dat->Option RV
 |.int i,.int j=>vI (i-j)
 |_,_=>none
noncomputable def g6:Dat->Dat->Option RV
 |.int i,.int j=>if (-B64<i/\i<B64)\/(-B64<j/\j<B64) then vI (i*j) else none
 |.lst xs,.int k=>if k<=BIG/\-BIG<=k/\xs.length*k.toNat<=SZ then some (.new (.lst (Dk k.toNat xs).flatten)) else none
 |_,_=>none
noncomputable def jH:Int:=1606938044258990275541962092341162602522202993782792835301376
noncomputable def Aj:Dat->Dat->Option RV
 |.int i,.int j=>if 0<j/\j<jH then vI (i / j) else none
 |_,_=>none
noncomputable def g7:Dat->Dat->Option RV
 |.int i,.int j=>if 0<j then vI (i % j) else none
 |_,_=>none
noncomputable def g8:Dat->Dat->Option RV
 |.int i,.int j=>if 0<=j/\j<=1000000/\i.natAbs<1000000 then vI (i ^ j.toNat) else none
 |_,_=>none
noncomputable def Ak:Dat->Option RV
 |.int i=>vI (-i)
 |_=>none
noncomputable def atI(xs:List Dat)(i:Int):Option Dat:=(ixN xs.length i).bind fun j=>xs[j]?
noncomputable def gIx:Dat->Dat->Option RV
 |.lst xs,.int i=>(atI xs i).map .val
 |.tup xs,.int i=>(atI xs i).map .val
 |_,_=>none
noncomputable def inD(x:Dat)(xs:List Dat):Bool:=xs.any fun y=>eqD y x
noncomputable def gIn:Dat->Dat->Option RV
 |x,.lst xs=>if okD 8 x&&xs.all (okD 7) then vB (inD x xs) else none
 |x,.tup xs=>if okD 8 x&&xs.all (okD 7) then vB (inD x xs) else none
 |_,_=>none
noncomputable def eZ:Dat->Dat->Option RV
 |x,.lst xs=>if okD 8 x&&xs.all (okD 7) then vB (!inD x xs) else none
 |x,.tup xs=>if okD 8 x&&xs.all (okD 7) then vB (!inD x xs) else none
 |_,_=>none
noncomputable def sIx(n d:Nat):Option Int->Nat
 |none=>d
 |some v=>(if v<0 then max (v+n) 0 else min v n).toNat
noncomputable def cut(xs:List Dat)(lo hi:Option Int):List Dat:=(xs.drop (sIx xs.length 0 lo)).take (sIx xs.length xs.length hi-sIx xs.length 0 lo)
noncomputable def cH:List Dat->Option RV
 |[.lst xs]=>vI xs.length
 |[.tup xs]=>vI xs.length
 |_=>none
noncomputable def mS:List Dat->Option RV
 |[.int i,.int j]=>vI (if j<i then j else i)
 |_=>none
noncomputable def qp:List Dat->Option RV
 |[.int i,.int j]=>vI (if j>i then j else i)
 |_=>none
noncomputable def ud:List Dat->Option RV
 |[.lst xs]=>some (.new (.lst xs))
 |[.tup xs]=>some (.new (.lst xs))
 |_=>none
noncomputable def kF:List Dat->Option RV
 |[.lst xs]=>some (.val (.tup xs))
 |[.tup xs]=>some (.val (.tup xs))
 |_=>none
noncomputable def isI:Dat->Bool
 |.int _=>true
 |.bl _=>true
 |_=>false
noncomputable def isB:Dat->Bool
 |.bl _=>true
 |_=>false
noncomputable def isL:Dat->Bool
 |.lst _=>true
 |_=>false
noncomputable def isT:Dat->Bool
 |.tup _=>true
 |_=>false
noncomputable def bools:List Dat->Option (List Bool)
 |[]=>some []
 |.bl b::r=>(bools r).map fun bs=>b::bs
 |_=>none
noncomputable def pW:List Dat->Option RV
 | [.lst xs]=>(match bools xs with
  |some bs=>vB (bs.all id)
  |none=>none)
 |_=>none
noncomputable def g9(g h:Dat->Dat->Option RV)(a b c:FE):FE:=fun ρ=>match a ρ with
 |none=>none
 |some (x,ρ1)=>match b ρ1 with
  |none=>none
  |some (y,ρ2)=>match pk ρ2 x with
   |none=>none
   |some d=>match pk ρ2 y with
    |none=>none
    |some e=>match g d e with
     | some (.val (.bl true))=>(match c ρ2 with
      |none=>none
      |some (z,ρ3)=>match pk ρ3 y with
       |none=>none
       |some e'=>match pk ρ3 z with
        |none=>none
        |some f=>match h e' f with
         |none=>none
         |some v=>some (v.bH,ρ3))
     |some (.val (.bl false))=>some (.val (.bl false),ρ2)
     |_=>none
noncomputable def part:Option FE->Env->Option (Option Int×Env)
 |none,ρ=>some (none,ρ)
 |some f,ρ=>match f ρ with
  |some (.val (.int i),ρ1)=>some (some i,ρ1)
  |_=>none
noncomputable def eSl(a:FE)(lo hi:Option FE):FE:=fun ρ=>match a ρ with
 |none=>none
 |some (x,ρ1)=>match part lo ρ1 with
  |none=>none
  |some (l,ρ2)=>match part hi ρ2 with
   |none=>none
   |some (h,ρ3)=>match pk ρ3 x with
    |some (.lst xs)=>some (.new (.lst (cut xs l h)),ρ3)
    |_=>none
noncomputable def Al:List Dat->Option RV
 |[.int i]=>vI i
 |[.bl b]=>vI (b2i b)
 |_=>none
end Dm
open Dm(Dat FE RV FT FS)
namespace Br
open PySem L2
mutual
inductive Rep(H:Hp):V->Dat->Prop
 |non:Rep H V.non Dat.non
 |bl (b:Bool):Rep H (V.bl b) (Dat.bl b)
 |int (i:Int):Rep H (V.int i) (Dat.int i)
 |str (s:List Nat):Rep H (V.str ⟨s.toArray⟩) (Dat.str s)
 |tup {a:Addr} {xs:List V} {ds:List Dat}:H a=some (.tup xs)->aD H xs ds->Rep H (V.ref a) (Dat.tup ds)
 |lst {a:Addr} {xs:List V} {ds:List Dat}:Rd H a (.lst xs)->aD H xs ds->Rep H (V.ref a) (Dat.lst ds)
 |dct {a:Addr} {kvs:List (Key×V)} {ks:List Int} {ds:List Dat}:H a=some (.dK kvs)->kvs.map (·.1)=ks.map T4->aD H (kvs.map (·.2)) ds->Rep H (V.ref a) (Dat.dct ks ds)
 |exc {a:Addr} {C:Nat}:H a=some (.ext fun h=>∃o,h.get? a=some o/\o.cls=.ref C)->Rep H (V.ref a) (Dat.exc C)
 |fn (a:Addr):Rep H (V.ref a) (Dat.fn a)
inductive aD(H:Hp):List V->List Dat->Prop
 |nil:aD H [] []
 |cons {v:V} {d:Dat} {vs:List V} {ds:List Dat}:Rep H v d->aD H vs ds->aD H (v::vs) (d::ds)
end
theorem av.rd{H H':Hp}(s:av H H'){a:Addr}{u:HO}(h:Rd H a u):Rd H' a u:=by
 rcases h with h | ⟨o,h⟩
 ·exact .inl (s _ _ h)
 ·exact .inr ⟨o,s _ _ h⟩
mutual
theorem Rep.mono{H H':Hp}(s:av H H'):∀{v:V} {d:Dat},Rep H v d->Rep H' v d
 |_,_,.non=>.non
 |_,_,.bl b=>.bl b
 |_,_,.int i=>.int i
 |_,_,.str x=>.str x
 |_,_,.tup h r=>.tup (s _ _ h) (aD.mono s r)
 |_,_,.lst h r=>.lst (av.rd s h) (aD.mono s r)
 |_,_,.dct h e r=>.dct (s _ _ h) e (aD.mono s r)
 |_,_,.exc h=>.exc (s _ _ h)
 |_,_,.fn a=>.fn a
theorem aD.mono{H H':Hp}(s:av H H'):∀{vs:List V} {ds:List Dat},aD H vs ds->aD H' vs ds
 |_,_,.nil=>.nil
 |_,_,.cons h r=>.cons (Rep.mono s h) (aD.mono s r)
end
section
variable{ρ:Dm.Env}{H0 H:Hp}{d:Dat}{σ:St}{a:Addr}{x:Dm.Val}{v:V}{X:Cx}{t t':TS}{p:Addr}{e:Expr}{o:HO}
theorem aD.length{H:Hp}:∀{vs:List V} {ds:List Dat},aD H vs ds->vs.length=ds.length
 |_,_,.nil=>rfl
 |_,_,.cons _ r=>by simp[aD.length r]
theorem aD.get{H:Hp}:∀{vs:List V} {ds:List Dat} {i:Nat} {d:Dat},aD H vs ds->ds[i]?=some d->∃v,vs[i]?=some v/\Rep H v d
 |_,_,_,_,.nil,e=>by simp at e
 |_,_,0,_,.cons h _,e=>by simp at e;subst e;exact⟨_,rfl,h⟩
 |_,_,i+1,_,.cons _ r,e=>by obtain⟨v,h1,h2⟩:=aD.get (i:=i) r (by simpa using e);exact⟨v,by simpa using h1,h2⟩
theorem aD.OH{H:Hp}:∀{vs:List V} {ds:List Dat} {i:Nat} {v:V},aD H vs ds->vs[i]?=some v->∃d,ds[i]?=some d/\Rep H v d
 |_,_,_,_,.nil,e=>by simp at e
 |_,_,0,_,.cons h _,e=>by simp at e;subst e;exact⟨_,rfl,h⟩
 |_,_,i+1,_,.cons _ r,e=>by obtain⟨v,h1,h2⟩:=aD.OH (i:=i) r (by simpa using e);exact⟨v,by simpa using h1,h2⟩
theorem aD.append{H:Hp}:∀{vs ws:List V} {ds es:List Dat},aD H vs ds->aD H ws es->aD H (vs++ws) (ds++es)
 |_,_,_,_,.nil,s=>s
 |_,_,_,_,.cons h r,s=>.cons h (aD.append r s)
theorem aD.take{H:Hp}:∀{vs:List V} {ds:List Dat} (n:Nat),aD H vs ds->aD H (vs.take n) (ds.take n)
 |_,_,0,_=>by simpa using aD.nil
 |_,_,_+1,.nil=>by simpa using aD.nil
 |_,_,n+1,.cons h r=>by simpa using aD.cons h (aD.take n r)
theorem aD.drop{H:Hp}:∀{vs:List V} {ds:List Dat} (n:Nat),aD H vs ds->aD H (vs.drop n) (ds.drop n)
 |_,_,0,r=>by simpa using r
 |_,_,_+1,.nil=>by simpa using aD.nil
 |_,_,n+1,.cons _ r=>by simpa using aD.drop n r
theorem aD.set{H:Hp}(h:Rep H v d):∀{vs:List V} {ds:List Dat} (i:Nat),aD H vs ds->aD H (vs.set i v) (ds.set i d)
 |_,_,_,.nil=>.nil
 |_,_,0,.cons _ r=>.cons h r
 |_,_,i+1,.cons q r=>.cons q (aD.set h i r)
theorem aD.rep{H:Hp}{vs:List V}{ds:List Dat}(r:aD H vs ds):∀k:Nat,aD H (Dk k vs).flatten (Dk k ds).flatten
 |0=>by simpa using aD.nil
 |k+1=>by rw[UY,UY,Vm,Vm];exact aD.append r (aD.rep r k)
def Own(H0 H:Hp)(a:Addr):Dat->Prop
 |.lst ds=>∃xs,H a=some (.lst xs)/\aD H0 xs ds
 |.dct ks ds=>∃kvs:List (Key×V),H a=some (.dK kvs)/\kvs.map (·.1)=ks.map T4/\aD H0 (kvs.map (·.2)) ds
 |_=>False
theorem Own.some(h:Own H0 H a d):∃o,H a=some o:=by
 cases d with
 |lst ds=>obtain⟨xs,e,_⟩:=h;exact⟨_,e⟩
 |dct ks ds=>obtain⟨xs,e,_⟩:=h;exact⟨_,e⟩
 |_=>exact TF h
theorem Own.mono{H0 H H0' H':Hp}(h:Own H0 H a d)(s:av H0 H0')(e:H' a=H a):Own H0' H' a d:=by
 cases d with
 |lst ds=>obtain⟨xs,q,r⟩:=h;exact⟨xs,by rw[e];exact q,r.mono s⟩
 |dct ks ds=>obtain⟨xs,q,k,r⟩:=h;exact⟨xs,by rw[e];exact q,k,r.mono s⟩
 |_=>exact TF h
def kG(H0 H:Hp)(v:V)(d:Dat):Prop:=Rep H0 v d\/∃a,v=V.ref a/\Own H0 H a d
inductive qq(H0 H:Hp):List V->List Dat->Prop
 |nil:qq H0 H [] []
 |cons {v:V} {d:Dat} {vs:List V} {ds:List Dat}:kG H0 H v d->qq H0 H vs ds->qq H0 H (v::vs) (d::ds)
noncomputable def shr(H0 H:Hp)(a:Addr):Hp:=fun b=>if b=a then H a else H0 b
theorem eL:shr H0 H a a=H a:=by unfold shr;rw[if_pos rfl]
theorem g_{a b:Addr}(h:b≠a):shr H0 H a b=H0 b:=by unfold shr;rw[if_neg h]
theorem jI(h:H0 a=none):av H0 (shr H0 H a):=fun b o e=>by
 by_cases q:b=a
 ·subst q;rw[h]at e;cases e
 ·rw[g_ q];exact e
theorem yz(s:av H0 H):av (shr H0 H a) H:=fun b o e=>by
 by_cases q:b=a
 ·subst q;rw[eL]at e;exact e
 ·rw[g_ q]at e;exact s _ _ e
theorem Own.rep(h:Own H0 H a d)(n:H0 a=none):Rep (shr H0 H a) (V.ref a) d:=by
 cases d with
 |lst ds=>obtain⟨xs,q,r⟩:=h;exact .lst (.inl (by rw[eL];exact q)) (r.mono (jI n))
 |dct ks ds=>obtain⟨xs,q,k,r⟩:=h;exact .dct (by rw[eL];exact q) k (r.mono (jI n))
 |_=>exact TF h
def ao(σ:St)(ρ:Dm.Env)(a:Addr):Prop:=∃(i:Nat) (d:Dat),ρ[i]?=some (Dm.Cell.ow d)/\σ[i]?=some (some (V.ref a))
noncomputable abbrev Def(_:Dm.Env)(_:Nat):Prop:=True
structure ay(H0 H:Hp)(σ:St)(ρ:Dm.Env):Prop where
 same:av H0 H
 len:σ.length=ρ.length
 sh:∀(i:Nat) (d:Dat),ρ[i]?=some (Dm.Cell.sh d)->∃v,σ[i]?=some (some v)/\Rep H0 v d
 ow:∀(i:Nat) (d:Dat),ρ[i]?=some (Dm.Cell.ow d)->∃a,σ[i]?=some (some (V.ref a))/\H0 a=none/\Own H0 H a d
 dis:∀(i j:Nat) (d e:Dat) (a:Addr),ρ[i]?=some (Dm.Cell.ow d)->ρ[j]?=some (Dm.Cell.ow e)->σ[i]?=some (some (V.ref a))->σ[j]?=some (some (V.ref a))->i=j
structure Stp(O:Addr->Prop)(H0 H H0' H':Hp):Prop where
 s0:av H0 H0'
 s1:∀a o,H a=some o->¬O a->H' a=some o
 s2:∀a o,H0' a=some o->H a=none\/H0 a=some o\/O a
 s3:∀a o,H a=some o->∃o',H' a=some o'
theorem Stp.refl(O:Addr->Prop)(H0 H:Hp):Stp O H0 H H0 H:=⟨av.refl _,fun _ _ e _=>e,fun _ _ e=>.inr (.inl e),fun _ o e=>⟨o,e⟩⟩
theorem Stp.gone{O:Addr->Prop}{H0 H H0' H':Hp}(t:Stp O H0 H H0' H')(h:H' a=none):H a=none:=by
 cases q:H a with
 |none=>rfl
 |some o=>obtain⟨o',e⟩:=t.s3 a o q;rw[h]at e;cases e
theorem Stp.trans{O1 O2:Addr->Prop}{H0 H H1 H' H2 H'':Hp}(t:Stp O1 H0 H H1 H')(u:Stp O2 H1 H' H2 H'')(k:∀a,O2 a->O1 a\/H a=none):Stp O1 H0 H H2 H'' where
 s0:=t.s0.trans u.s0
 s1:=fun a o e n=>u.s1 a o (t.s1 a o e n) fun z=>(k a z).elim n fun q=>by rw[q]at e;cases e
 s2:=fun a o e=>by
  rcases u.s2 a o e with q | q | q
  ·exact .inl (t.gone q)
  ·exact t.s2 a o q
  ·rcases k a q with z | z
   ·exact .inr (.inr z)
   ·exact .inl z
 s3:=fun a o e=>by obtain⟨o',e'⟩:=t.s3 a o e;exact u.s3 a o' e'
theorem Stp.wide{O O':Addr->Prop}{H0 H H0' H':Hp}(t:Stp O H0 H H0' H')(k:∀a,O a->O' a):Stp O' H0 H H0' H':=
 ⟨t.s0,fun a o e n=>t.s1 a o e fun z=>n (k a z),fun a o e=>(t.s2 a o e).imp id (Or.imp id (k a)),t.s3⟩
structure aJ(H0 H H0' H':Hp):Prop where
 s0:av H0 H0'
 s1:av H H'
 s2:∀a o,H0' a=some o->H a=none\/H0 a=some o
 s3:av H0' H'
theorem aJ.refl(s:av H0 H):aJ H0 H H0 H:=⟨av.refl _,av.refl _,fun _ _ e=>.inr e,s⟩
theorem aJ.stp{H0 H H0' H':Hp}(g:aJ H0 H H0' H')(O:Addr->Prop):Stp O H0 H H0' H':=
 ⟨g.s0,fun a o e _=>g.s1 a o e,fun a o e=>(g.s2 a o e).imp id .inl,fun a o e=>⟨o,g.s1 a o e⟩⟩
theorem aJ.Am(s:av H0 H)(n:H p=none):aJ H0 H (upd H0 p o) (upd H p o) where
 s0:=fun b u e=>by rw[aj (az e (s.free n))];exact e
 s1:=fun b u e=>by rw[aj (az e n)];exact e
 s2:=fun b u e=>by
  by_cases q:b=p
  ·subst q;exact .inl n
  ·rw[aj q]at e;exact .inr e
 s3:=fun b u e=>by
  by_cases q:b=p
  ·subst q;rw[ak]at e ⊢;exact e
  ·rw[aj q]at e ⊢;exact s _ _ e
theorem aJ.jJ(s:av H0 H)(n:H p=none):aJ H0 H H0 (upd H p o) where
 s0:=av.refl _
 s1:=fun b u e=>by rw[aj (az e n)];exact e
 s2:=fun b u e=>.inr e
 s3:=fun b u e=>by rw[aj (az (s _ _ e) n)];exact s _ _ e
def fQ(Hs H0 H:Hp)(σ:St)(ρ:Dm.Env)(v:V):Dm.Val->Prop
 |.val d=>Rep H0 v d
 |.slot i=>σ[i]?=some (some v)/\Def ρ i
 |.new d=>∃a,v=V.ref a/\Hs a=none/\¬ao σ ρ a/\H0 a=none/\Own H0 H a d
structure ESt(σ:St)(ρ:Dm.Env)(H0 H:Hp)(ρ':Dm.Env)(H0' H':Hp):Prop where
 st:ay H0' H' σ ρ'
 stp:Stp (ao σ ρ) H0 H H0' H'
 own:∀a,ao σ ρ' a->ao σ ρ a
 dfn:∀i,Def ρ i->Def ρ' i
theorem ESt.refl(st:ay H0 H σ ρ):ESt σ ρ H0 H ρ H0 H:=⟨st,Stp.refl _ _ _,fun _ z=>z,fun _ z=>z⟩
theorem ESt.trans{ρ ρ1 ρ2:Dm.Env}{H0 H H1 H' H2 H'':Hp}(t:ESt σ ρ H0 H ρ1 H1 H')(u:ESt σ ρ1 H1 H' ρ2 H2 H''):ESt σ ρ H0 H ρ2 H2 H'':=
 ⟨u.st,t.stp.trans u.stp fun a z=>.inl (t.own a z),fun a z=>t.own a (u.own a z),fun i z=>u.dfn i (t.dfn i z)⟩
theorem ay.grow{H0 H H0' H':Hp}(st:ay H0 H σ ρ)(g:aJ H0 H H0' H'):ay H0' H' σ ρ where
 same:=g.s3
 len:=st.len
 sh:=fun i d e=>by obtain⟨v,q,r⟩:=st.sh i d e;exact⟨v,q,r.mono g.s0⟩
 ow:=fun i d e=>by
  obtain⟨a,q,n,w⟩:=st.ow i d e;obtain⟨o,z⟩:=w.some;refine⟨a,q,?_,w.mono g.s0 ((g.s1 a o z).trans z.symm)⟩;cases y:H0' a with
  |none=>rfl
  |some u=>
   rcases g.s2 a u y with k | k
   ·rw[z]at k;cases k
   ·rw[n]at k;cases k
 dis:=st.dis
theorem ESt.grow{H0 H H0' H':Hp}(st:ay H0 H σ ρ)(g:aJ H0 H H0' H'):ESt σ ρ H0 H ρ H0' H':=
 ⟨st.grow g,g.stp _,fun _ z=>z,fun _ z=>z⟩
theorem fQ.mono{Hs H0 H H0' H':Hp}{ρ ρ':Dm.Env}(r:fQ Hs H0 H σ ρ v x)(t:ESt σ ρ H0 H ρ' H0' H'):fQ Hs H0' H' σ ρ' v x:=by
 cases x with
 |val d=>exact Rep.mono t.stp.s0 r
 |slot i=>exact⟨r.1,t.dfn i r.2⟩
 |new d=>
  obtain⟨a,e,n,no,n0,w⟩:=r;obtain⟨o,z⟩:=w.some;refine⟨a,e,n,fun y=>no (t.own a y),?_,w.mono t.stp.s0 ((t.stp.s1 a o z no).trans z.symm)⟩;cases y:H0' a with
  |none=>rfl
  |some u=>
   rcases t.stp.s2 a u y with k | k | k
   ·rw[z]at k;cases k
   ·rw[n0]at k;cases k
   ·exact absurd k no
theorem fQ.early{Hs Hs' H0 H:Hp}(r:fQ Hs H0 H σ ρ v x)(k:∀a,Hs a=none->Hs' a=none):fQ Hs' H0 H σ ρ v x:=by
 cases x with
 |val d=>exact r
 |slot i=>exact r
 |new d=>obtain⟨a,e,n,z⟩:=r;exact⟨a,e,k a n,z⟩
theorem fQ.look{Hs H0 H:Hp}(r:fQ Hs H0 H σ ρ v x)(st:ay H0 H σ ρ)(e:Dm.pk ρ x=some d):kG H0 H v d:=by
 cases x with
 |val d'=>cases e;exact .inl r
 |new d'=>cases e;obtain⟨a,e,_,_,_,w⟩:=r;exact .inr ⟨a,e,w⟩
 |slot i=>
  obtain⟨q,_⟩:=r;unfold Dm.pk at e;dsimp only at e;split at e
  ·rename_i d' h;cases e;obtain⟨a,z,_,w⟩:=st.ow i d h;rw[q]at z;cases z;exact .inr ⟨a,rfl,w⟩
  ·rename_i d' h;cases e;obtain⟨u,z,w⟩:=st.sh i d h;rw[q]at z;cases z;exact .inl w
  ·cases e
def rN(Hs H0 H:Hp)(v:V):RV->Prop
 |.val d=>Rep H0 v d
 |.new d=>∃a,v=V.ref a/\Hs a=none/\H0 a=none/\Own H0 H a d
theorem rN.toV{H H0' H' H0:Hp}{z:RV}(r:rN H H0' H' v z)(st:ay H0 H σ ρ):fQ H H0' H' σ ρ v z.bH:=by
 cases z with
 |val d=>exact r
 |new d=>obtain⟨a,e,n,n0,w⟩:=r;refine⟨a,e,n,fun⟨i,d',h1,h2⟩=>?_,n0,w⟩;obtain⟨a',q,_,w'⟩:=st.ow i d' h1;rw[h2]at q;cases q;obtain⟨o,z⟩:=w'.some;rw[n]at z;cases z
def tD(f:FE):TE:=fun σ H Q=>∃H0 ρ x ρ',ay H0 H σ ρ/\f ρ=some (x,ρ')/\∀v H0' H',ESt σ ρ H0 H ρ' H0' H'->fQ H H0' H' σ ρ' v x->Q v H'
def tDT(f:FT):TT:=fun σ H Q=>∃H0 ρ b ρ',ay H0 H σ ρ/\f ρ=some (b,ρ')/\∀H0' H',ESt σ ρ H0 H ρ' H0' H'->Q b H'
inductive di(Hs H0 H:Hp)(σ:St)(ρ:Dm.Env):List V->List Dm.Val->Prop
 |nil:di Hs H0 H σ ρ [] []
 |cons {v:V} {x:Dm.Val} {vs:List V} {xs:List Dm.Val}:fQ Hs H0 H σ ρ v x->di Hs H0 H σ ρ vs xs->di Hs H0 H σ ρ (v::vs) (x::xs)
def tDA(fs:List FE):TA:=fun σ H Q=>∃H0 ρ xs ρ',ay H0 H σ ρ/\Dm.eAs fs ρ=some (xs,ρ')/\∀vs H0' H',ESt σ ρ H0 H ρ' H0' H'->di H H0' H' σ ρ' vs xs->Q vs H'
noncomputable abbrev DE(X:Cx)(e:Expr)(f:FE):Prop:=PE X e (tD f)
noncomputable abbrev DT(X:Cx)(e:Expr)(f:FT):Prop:=PT X e (tDT f)
noncomputable abbrev DA(X:Cx)(es:List Expr)(fs:List FE):Prop:=PA X es (tDA fs)
theorem PE.weak{t t':TE}(h:PE X e t)(k:∀σ H Q,t' σ H Q->t σ H Q):PE X e t':=fun uV s σ H Q I q=>h uV s σ H Q I (k σ H Q q)
theorem PT.weak{t t':TT}(h:PT X e t)(k:∀σ H Q,t' σ H Q->t σ H Q):PT X e t':=fun uV s σ H Q I q=>h uV s σ H Q I (k σ H Q q)
theorem PA.weak{es:List Expr}{t t':TA}(h:PA X es t)(k:∀σ H Q,t' σ H Q->t σ H Q):PA X es t':=fun pos uV s σ H Q I q=>h pos uV s σ H Q I (k σ H Q q)
theorem PS.weak{st:Stmt}(h:PS X st t)(k:∀D σ H,t' D σ H->t D σ H):PS X st t':=fun uV s σ H D I q=>h uV s σ H D I (k D σ H q)
theorem PSs.weak{st:List Stmt}(h:PSs X st t)(k:∀D σ H,t' D σ H->t D σ H):PSs X st t':=fun uV s σ H D I q=>h uV s σ H D I (k D σ H q)
theorem dw(s:av H0 H):av H0 (shr H0 H a):=fun b o e=>by
 by_cases q:b=a
 ·subst q;rw[eL];exact s _ _ e
 ·rw[g_ q];exact e
theorem Own.Ga{H0 H0c H:Hp}(h:Own H0 H a d)(b:av H0 H0c)(s:av H0c H):Rep (shr H0c H a) (V.ref a) d:=by
 cases d with
 |lst ds=>obtain⟨xs,q,r⟩:=h;exact .lst (.inl (by rw[eL];exact q)) (r.mono (b.trans (dw s)))
 |dct ks ds=>obtain⟨xs,q,k,r⟩:=h;exact .dct (by rw[eL];exact q) k (r.mono (b.trans (dw s)))
 |_=>exact TF h
theorem fQ.rho{Hs H0 H:Hp}{ρ ρ':Dm.Env}(r:fQ Hs H0 H σ ρ v x)(o:∀a,ao σ ρ' a->ao σ ρ a)(d:∀i,Def ρ i->Def ρ' i):fQ Hs H0 H σ ρ' v x:=by
 cases x with
 |val d=>exact r
 |slot i=>exact⟨r.1,d i r.2⟩
 |new d=>obtain⟨a,e,n,no,z⟩:=r;exact⟨a,e,n,fun y=>no (o a y),z⟩
theorem di.rho{Hs H0 H:Hp}{ρ ρ':Dm.Env}(o:∀a,ao σ ρ' a->ao σ ρ a)(d:∀i,Def ρ i->Def ρ' i):∀{vs:List V} {xs:List Dm.Val},di Hs H0 H σ ρ vs xs->di Hs H0 H σ ρ' vs xs
 |_,_,.nil=>.nil
 |_,_,.cons h r=>.cons (h.rho o d) (di.rho o d r)
theorem di.early{Hs Hs' H0 H:Hp}(k:∀a,Hs a=none->Hs' a=none):∀{vs:List V} {xs:List Dm.Val},di Hs H0 H σ ρ vs xs->di Hs' H0 H σ ρ vs xs
 |_,_,.nil=>.nil
 |_,_,.cons h r=>.cons (h.early k) (di.early k r)
theorem aQ{i j:Nat}{c d:Dm.Cell}(h:(ρ.set i c)[j]?=some d):(j=i/\d=c)\/(j≠i/\ρ[j]?=some d):=by
 by_cases e:j=i
 ·subst e;by_cases l:j<ρ.length
  ·rw[TR l]at h;exact .inl ⟨rfl,(Option.some.inj h).symm⟩
  ·rw[Uk (by simpa using VH.mp l)]at h;cases h
 ·rw[gc (Ue e)]at h;exact .inr ⟨e,h⟩
theorem wR{i:Nat}(st:ay H0 H σ ρ)(e:ρ[i]?=some (.ow d))(q:σ[i]?=some (some (V.ref a))) :
  ay (shr H0 H a) H σ (ρ.set i (.sh d))/\(∀b,ao σ (ρ.set i (.sh d)) b->ao σ ρ b)/\∀j,Def ρ j->Def (ρ.set i (.sh d)) j:=by
 obtain⟨a',q',n,w⟩:=st.ow i d e;rw[q]at q';cases q';have hil:i<ρ.length:=(Tj.mp e).1;refine⟨⟨yz st.same,by rw[Ug];exact st.len,fun j d' h=>?_,fun j d' h=>?_,fun j k d1 d2 b h1 h2 h3 h4=>?_⟩,fun b ⟨j,d',h1,h2⟩=>?_,fun j h=>?_⟩
 ·rcases aQ h with⟨rfl,z⟩ | ⟨_,h⟩
  ·cases z;exact⟨_,q,w.rep n⟩
  ·obtain⟨v,z,r⟩:=st.sh j d' h;exact⟨v,z,r.mono (jI n)⟩
 ·rcases aQ h with⟨_,z⟩ | ⟨hj,h⟩
  ·cases z
  ·obtain⟨b,z,n',w'⟩:=st.ow j d' h;have nb:b≠a:=fun y=>hj (st.dis j i d' d a h e (y▸z) q);exact⟨b,z,by rw[g_ nb];exact n',w'.mono (jI n) rfl⟩
 ·rcases aQ h1 with⟨_,z⟩ | ⟨_,h1⟩
  ·cases z
  ·rcases aQ h2 with⟨_,z⟩ | ⟨_,h2⟩
   ·cases z
   ·exact st.dis j k d1 d2 b h1 h2 h3 h4
 ·rcases aQ h1 with⟨_,z⟩ | ⟨_,h1⟩
  ·cases z
  ·exact⟨j,d',h1,h2⟩
 ·trivial
theorem An(st:ay H0 H σ ρ)(no:¬ao σ ρ a):ay (shr H0 H a) H σ ρ where
 same:=yz st.same
 len:=st.len
 sh:=fun j d h=>by obtain⟨v,z,r⟩:=st.sh j d h;exact⟨v,z,r.mono (dw st.same)⟩
 ow:=fun j d h=>by obtain⟨b,z,n',w'⟩:=st.ow j d h;have nb:b≠a:=fun y=>no ⟨j,d,h,y▸z⟩;exact⟨b,z,by rw[g_ nb];exact n',w'.mono (dw st.same) rfl⟩
 dis:=st.dis
theorem take1{Hs H0s H0 H0c H:Hp}{ρs ρ ρ':Dm.Env}(t:ESt σ ρs H0s Hs ρ H0c H)(b:av H0 H0c)(r:fQ Hs H0 H σ ρ v x)(e:Dm.tk ρ x=some (d,ρ')) :
  ∃mT,ESt σ ρs H0s Hs ρ' mT H/\av H0c mT/\Rep mT v d/\(∀a,ao σ ρ' a->ao σ ρ a)/\∀i,Def ρ i->Def ρ' i:=by
 cases x with
 |val d'=>cases e;exact⟨H0c,t,av.refl _,Rep.mono b r,fun _ z=>z,fun _ z=>z⟩
 |new d'=>
  cases e;obtain⟨a,e,n,no,n0,w⟩:=r;subst e;have ss:=dw (a:=a) t.st.same;refine⟨shr H0c H a,⟨An t.st no,⟨t.stp.s0.trans ss,t.stp.s1,fun c o q=>?_,t.stp.s3⟩,t.own,t.dfn⟩,ss,w.Ga b t.st.same,fun _ z=>z,fun _ z=>z⟩;by_cases y:c=a
  ·subst y;exact .inl n
  ·rw[g_ y]at q;exact t.stp.s2 c o q
 |slot i=>
  obtain⟨q,_⟩:=r;unfold Dm.tk at e;dsimp only at e;split at e
  ·rename_i d' h;cases e;obtain⟨a,z,n,w⟩:=t.st.ow i _ h;rw[q]at z;cases z;obtain⟨s1,s2,s3⟩:=wR t.st h q;have ss:=dw (a:=a) t.st.same;refine⟨shr H0c H a,⟨s1,⟨t.stp.s0.trans ss,t.stp.s1,fun c o q'=>?_,t.stp.s3⟩,fun b z=>t.own b (s2 b z),fun j z=>s3 j (t.dfn j z)⟩,ss,w.Ga (av.refl _) t.st.same,s2,s3⟩;by_cases y:c=a
   ·subst y;exact .inr (.inr (t.own c ⟨i,_,h,q⟩))
   ·rw[g_ y]at q';exact t.stp.s2 c o q'
  ·rename_i d' h;cases e;obtain⟨u,z,w⟩:=t.st.sh i _ h;rw[q]at z;cases z;exact⟨H0c,t,av.refl _,w,fun _ z=>z,fun _ z=>z⟩
  ·cases e
theorem takes{Hs H0s H0 H:Hp}{ρs:Dm.Env}:∀{xs:List Dm.Val} {vs:List V} {ρ ρ':Dm.Env} {ds:List Dat} {H0c:Hp},ESt σ ρs H0s Hs ρ H0c H->av H0 H0c->di Hs H0 H σ ρ vs xs->Dm.tks ρ xs=some (ds,ρ') ->
  ∃mT,ESt σ ρs H0s Hs ρ' mT H/\av H0c mT/\aD mT vs ds
 |[],_,ρ,ρ',ds,H0c,t,b,r,e=>by cases r;cases e;exact⟨H0c,t,av.refl _,.nil⟩
 |x::xs,_,ρ,ρ',ds,H0c,t,b,r,e=>by
  cases r with
  |cons h r=>
   unfold Dm.tks at e;split at e
   ·cases e
   ·rename_i d ρ1 e1;split at e
    ·cases e
    ·rename_i ds' ρ2 e2;cases e;obtain⟨H1,t1,b1,r1,o1,d1⟩:=take1 t b h e1;obtain⟨H2,t2,b2,r2⟩:=takes t1 (b.trans b1) (r.rho o1 d1) e2;exact⟨H2,t2,b1.trans b2,.cons (r1.mono b2) r2⟩
theorem OI{ρ ρ':Dm.Env}(e:Dm.tk ρ x=some (d,ρ'))(y:Dm.Val):Dm.pk ρ' y=Dm.pk ρ y:=by
 cases x with
 |val d'=>cases e;rfl
 |new d'=>cases e;rfl
 |slot i=>
  unfold Dm.tk at e;dsimp only at e;split at e
  ·rename_i d' h;cases e;cases y with
   |val _=>rfl
   |new _=>rfl
   |slot j=>
    unfold Dm.pk;dsimp only;by_cases z:j=i
    ·subst z;rw[TR (Tj.mp h).1,h]
    ·rw[gc (Ue z)]
  ·cases e;rfl
  ·cases e
theorem BZ(e:Dm.pk ρ x=some d):∃ρ',Dm.tk ρ x=some (d,ρ'):=by
 cases x with
 |val d'=>cases e;exact⟨ρ,rfl⟩
 |new d'=>cases e;exact⟨ρ,rfl⟩
 |slot i=>
  unfold Dm.pk at e;dsimp only at e;unfold Dm.tk;dsimp only;split at e
  ·rename_i d' h;cases e;exact⟨_,rfl⟩
  ·rename_i d' h;cases e;exact⟨_,rfl⟩
  ·cases e
theorem h_:∀{xs:List Dm.Val} {ρ:Dm.Env} {ds:List Dat},Dm.pks ρ xs=some ds->∃ρ',Dm.tks ρ xs=some (ds,ρ')
 |[],ρ,ds,e=>by cases e;exact⟨ρ,rfl⟩
 |x::xs,ρ,ds,e=>by
  unfold Dm.pks at e;split at e
  ·cases e
  ·rename_i d e1;split at e
   ·cases e
   ·rename_i ds' e2;cases e;obtain⟨ρ1,h1⟩:=BZ e1;have key:∀ys:List Dm.Val,Dm.pks ρ1 ys=Dm.pks ρ ys:=fun ys=>by
     induction ys with
     |nil=>rfl
     |cons y ys ih=>unfold Dm.pks;rw[OI h1 y,ih]
    obtain⟨ρ2,h2⟩:=h_ (xs:=xs) (ρ:=ρ1) (ds:=ds') (by rw[key];exact e2);exact⟨ρ2,by unfold Dm.tks;rw[h1];dsimp only;rw[h2]⟩
theorem looks{Hs H0 H:Hp}(st:ay H0 H σ ρ):∀{xs:List Dm.Val} {vs:List V} {ds:List Dat},di Hs H0 H σ ρ vs xs->Dm.pks ρ xs=some ds->qq H0 H vs ds
 |[],_,ds,r,e=>by cases r;cases e;exact .nil
 |x::xs,_,ds,r,e=>by
  cases r with
  |cons h r=>
   unfold Dm.pks at e;split at e
   ·cases e
   ·rename_i d e1;split at e
    ·cases e
    ·rename_i ds' e2;cases e;exact .cons (h.look st e1) (looks st r e2)
def OpD(r:R2)(g:Dat->Dat->Option RV):Prop:=∀(H0 H:Hp) (x y:V) (dx dy:Dat) (z:RV) (Q:VK),av H0 H->kG H0 H x dx->kG H0 H y dy->g dx dy=some z ->
 (∀v H0' H',aJ H0 H H0' H'->rN H H0' H' v z->Q v H')->r x y H Q
def UnD(r:V->Hp->VK->Prop)(g:Dat->Option RV):Prop:=∀(H0 H:Hp) (x:V) (dx:Dat) (z:RV) (Q:VK),av H0 H->kG H0 H x dx->g dx=some z ->
 (∀v H0' H',aJ H0 H H0' H'->rN H H0' H' v z->Q v H')->r x H Q
def CallD(r:List V->Hp->VK->Prop)(g:List Dat->Option RV):Prop:=∀(H0 H:Hp) (vs:List V) (ds:List Dat) (z:RV) (Q:VK),av H0 H->qq H0 H vs ds->g ds=some z ->
 (∀v H0' H',aJ H0 H H0' H'->rN H H0' H' v z->Q v H')->r vs H Q
def spD(f:List Dat->Option RV):Sp:=fun vs H Q _=>∃H0 ds z,av H0 H/\aD H0 vs ds/\f ds=some z/\∀v H0' H',aJ H0 H H0' H'->rN H H0' H' v z->Q v H'
end
section
variable{σ:St}{H:Hp}{Q:VK}
section
variable{fs:List FE}{d:Dat}{a b:FE}{t u:FT}{v:V}{H0:Hp}
theorem OJ{i:Nat}(h:tD (Dm.eV i) σ H Q):rA i σ H Q:=by
 obtain⟨H0,ρ,x,ρ',st,e,k⟩:=h;unfold Dm.eV at e;split at e
 ·rename_i d h1;cases e;obtain⟨v,q,r⟩:=st.sh i d h1;exact⟨v,q,k v H0 H (.refl st) r⟩
 ·rename_i d h1;cases e;obtain⟨a,q,_⟩:=st.ow i d h1;exact⟨_,q,k _ H0 H (.refl st) ⟨q,trivial⟩⟩
 ·cases e
theorem jK(c:∀H0:Hp,Rep H0 v d)(h:tD (Dm.eC d) σ H Q):tC v σ H Q:=by obtain⟨H0,ρ,x,ρ',st,e,k⟩:=h;cases e;exact k v H0 H (.refl st) (c H0)
theorem wU{r:R2}{g:Dat->Dat->Option RV}{fa fb:FE}(o:OpD r g)(h:tD (Dm.e2 g fa fb) σ H Q):tOp r (tD fa) (tD fb) σ H Q:=by
 obtain⟨H0,ρ,x,ρ',st,e,k⟩:=h;unfold Dm.e2 at e;split at e
 ·cases e
 rename_i x1 ρ1 e1;split at e
 ·cases e
 rename_i y1 ρ2 e2;split at e
 ·cases e
 rename_i dx p1;split at e
 ·cases e
 rename_i dy p2;split at e
 ·cases e
 rename_i z gz;cases e;refine⟨H0,ρ,x1,ρ1,st,e1,fun v H1 Hb t1 r1=>⟨H1,ρ1,y1,_,t1.st,e2,fun u H2 Hc t2 r2=>?_⟩⟩;refine o H2 Hc v u dx dy z Q t2.st.same ((r1.mono t2).look t2.st p1) (r2.look t2.st p2) gz fun w H3 Hd g3 r3=>?_;exact k w H3 Hd (t1.trans (t2.trans (.grow t2.st g3))) ((r3.toV t2.st).early fun a n=>(t1.trans t2).stp.gone n)
theorem OL{r:V->Hp->VK->Prop}{g:Dat->Option RV}{fa:FE}(o:UnD r g)(h:tD (Dm.e1 g fa) σ H Q):tUn r (tD fa) σ H Q:=by
 obtain⟨H0,ρ,x,ρ',st,e,k⟩:=h;unfold Dm.e1 at e;split at e
 ·cases e
 rename_i x1 ρ1 e1;split at e
 ·cases e
 rename_i dx p1;split at e
 ·cases e
 rename_i z gz;cases e;refine⟨H0,ρ,x1,_,st,e1,fun v H1 Hb t1 r1=>?_⟩;refine o H1 Hb v dx z Q t1.st.same (r1.look t1.st p1) gz fun w H3 Hd g3 r3=>?_;exact k w H3 Hd (t1.trans (.grow t1.st g3)) ((r3.toV t1.st).early fun a n=>t1.stp.gone n)
theorem OM{Q:List V->Hp->Prop}(h:tDA [] σ H Q):rE σ H Q:=by obtain⟨H0,ρ,xs,ρ',st,e,k⟩:=h;cases e;exact k [] H0 H (.refl st) .nil
theorem Li{f:FE}{Q:List V->Hp->Prop}(h:tDA (f::fs) σ H Q):gJ (tD f) (tDA fs) σ H Q:=by
 obtain⟨H0,ρ,xs,ρ',st,e,k⟩:=h;unfold Dm.eAs at e;split at e
 ·cases e
 rename_i x1 ρ1 e1;split at e
 ·cases e
 rename_i xs1 ρ2 e2;cases e;refine⟨H0,ρ,x1,ρ1,st,e1,fun v H1 Hb t1 r1=>⟨H1,ρ1,xs1,_,t1.st,e2,fun vs H2 Hc t2 r2=>?_⟩⟩;exact k (v::vs) H2 Hc (t1.trans t2) (.cons (r1.mono t2) (r2.early fun a n=>t1.stp.gone n))
theorem Gb{r:List V->Hp->VK->Prop}{g:List Dat->Option RV}(o:CallD r g)(h:tD (Dm.eB g fs) σ H Q):tCB r (tDA fs) σ H Q:=by
 obtain⟨H0,ρ,x,ρ',st,e,k⟩:=h;unfold Dm.eB at e;split at e
 ·cases e
 rename_i xs ρ1 e1;split at e
 ·cases e
 rename_i ds p1;split at e
 ·cases e
 rename_i z gz;cases e;refine⟨H0,ρ,xs,_,st,e1,fun vs H1 Hb t1 r1=>?_⟩;refine o H1 Hb vs ds z Q t1.st.same (looks t1.st r1 p1) gz fun w H3 Hd g3 r3=>?_;exact k w H3 Hd (t1.trans (.grow t1.st g3)) ((r3.toV t1.st).early fun a n=>t1.stp.gone n)
theorem jL{n:Nat}(h:n<=Dm.SZ):n<=sizeLine:=Nat.le_trans h (by decide)
theorem ON(h:tD (Dm.bg fs) σ H Q):K5 (tDA fs) σ H Q:=by
 obtain⟨H0,ρ,x,ρ',st,e,k⟩:=h;unfold Dm.bg at e;split at e
 ·cases e
 rename_i xs ρ1 e1;split at e
 ·cases e
 rename_i ds ρ2 e2;split at e
 ·rename_i hz;cases e;refine⟨H0,ρ,xs,ρ1,st,e1,fun vs H1 Hb t1 r1=>?_⟩;obtain⟨H2,t2,b2,r2⟩:=takes t1 (av.refl _) r1 e2;refine⟨by rw[r2.length];exact jL hz,fun p hp=>?_⟩;have g:=aJ.Am (o:=HO.tup vs) t2.st.same hp;exact k _ _ _ (t2.trans (.grow t2.st g)) (.tup ak (r2.mono g.s0))
 ·cases e
theorem OO(h:tD (Dm.bA fs) σ H Q):FZ (tDA fs) σ H Q:=by
 obtain⟨H0,ρ,x,ρ',st,e,k⟩:=h;unfold Dm.bA at e;split at e
 ·cases e
 rename_i xs ρ1 e1;split at e
 ·cases e
 rename_i ds ρ2 e2;split at e
 ·rename_i hz;cases e;refine⟨H0,ρ,xs,ρ1,st,e1,fun vs H1 Hb t1 r1=>?_⟩;obtain⟨H2,t2,b2,r2⟩:=takes t1 (av.refl _) r1 e2;refine⟨by rw[r2.length];exact jL hz,fun p hp=>?_⟩;have g:=aJ.jJ (o:=HO.lst vs) t2.st.same hp;refine k _ _ _ (t2.trans (.grow t2.st g)) ⟨p,rfl,t2.stp.gone hp,fun⟨i,d,h1,h2⟩=>?_,t2.st.same.free hp,vs,ak,r2⟩;obtain⟨a,q,_,w⟩:=t2.st.ow i d h1;rw[h2]at q;cases q;obtain⟨o,z⟩:=w.some;rw[hp]at z;cases z
 ·cases e
theorem Rep.plain{H0 H1:Hp}(r:Rep H0 v d)(n:Dm.fH d=false):Rep H1 v d:=by
 cases r with
 |non=>exact .non
 |bl b=>exact .bl b
 |int i=>exact .int i
 |str s=>exact .str s
 |tup _ _=>cases n
 |lst _ _=>cases n
 |dct _ _ _=>cases n
 |exc _=>cases n
 |fn a=>exact .fn a
theorem Own.box{H0 H:Hp}{a:Addr}(w:Own H0 H a d):Dm.fH d=true:=by
 cases d with
 |lst ds=>rfl
 |dct ks ds=>rfl
 |_=>exact TF w
theorem wV{f:List Dat->Option RV}{E:XK}(h:tD (Dm.eF f fs) σ H Q):qe (spD f) [] E (tDA fs) σ H Q:=by
 obtain⟨H0,ρ,x,ρ',st,e,k⟩:=h;unfold Dm.eF at e;split at e
 ·cases e
 rename_i xs ρ1 e1;split at e
 ·cases e
 rename_i ds p1;split at e
 ·cases e
 rename_i z fz;refine⟨H0,ρ,xs,ρ1,st,e1,fun vs H1 Hb t1 r1=>?_⟩;dsimp only;rw[Uc];obtain⟨ρ2,e2⟩:=h_ p1;obtain⟨H2,t2,b2,r2⟩:=takes t1 (av.refl _) r1 e2;split at e
 ·rw[e2]at e;cases e;exact⟨H2,ds,z,t2.st.same,r2,fz,fun w H3 Hd g3 r3=>k w H3 Hd (t2.trans (.grow t2.st g3)) ((r3.toV t2.st).early fun a n=>t2.stp.gone n)⟩
 ·rename_i nb;cases e;refine⟨H2,ds,z,t2.st.same,r2,fz,fun w H3 Hd g3 r3=>?_⟩;have g:aJ H1 Hb H1 Hd:=⟨av.refl _,g3.s1,fun a o q=>.inr q,t1.st.same.trans g3.s1⟩
  refine k w H1 Hd (t1.trans (.grow t1.st g)) ?_;cases z with
  |val d=>exact Rep.plain r3 (by simpa [RV.dat] using nb)
  |new d=>obtain⟨a,_,_,_,w⟩:=r3;exact absurd w.box (by simpa [RV.dat] using nb)
theorem RT{t:FT}(h:tD (Dm.eIf t a b) σ H Q):tIf (tDT t) (tD a) (tD b) σ H Q:=by
 obtain⟨H0,ρ,x,ρ',st,e,k⟩:=h;unfold Dm.eIf at e;split at e
 ·cases e
 ·rename_i ρ1 e1;refine⟨H0,ρ,true,ρ1,st,e1,fun H1 Hb t1=>?_⟩;dsimp only;rw[if_pos rfl];exact⟨H1,ρ1,x,ρ',t1.st,e,fun v H2 Hc t2 r2=>k v H2 Hc (t1.trans t2) (r2.early fun a n=>t1.stp.gone n)⟩
 ·rename_i ρ1 e1;refine⟨H0,ρ,false,ρ1,st,e1,fun H1 Hb t1=>?_⟩;dsimp only;rw[if_neg Ua];exact⟨H1,ρ1,x,ρ',t1.st,e,fun v H2 Hc t2 r2=>k v H2 Hc (t1.trans t2) (r2.early fun a n=>t1.stp.gone n)⟩
theorem Rep.rO{c:Bool}(r:Rep H0 v (.bl c)):v=.bl c:=by cases r;rfl
theorem Rep.isInt{c:Int}(r:Rep H0 v (.int c)):v=.int c:=by cases r;rfl
theorem OP(h:tD (Dm.dO a b) σ H Q):ID (tD a) (tD b) σ H Q:=by
 obtain⟨H0,ρ,x,ρ',st,e,k⟩:=h;unfold Dm.dO at e;split at e
 ·rename_i ρ1 e1;refine⟨H0,ρ,_,_,st,e1,fun v H1 Hb t1 r1=>⟨true,Rep.rO r1,?_⟩⟩
  try dsimp only
  rw[if_pos rfl];exact⟨H1,ρ1,x,ρ',t1.st,e,fun v H2 Hc t2 r2=>k v H2 Hc (t1.trans t2) (r2.early fun a n=>t1.stp.gone n)⟩
 ·rename_i ρ1 e1;cases e;refine⟨H0,ρ,_,_,st,e1,fun v H1 Hb t1 r1=>⟨false,Rep.rO r1,?_⟩⟩
  try dsimp only
  rw[if_neg Ua];exact k _ H1 Hb t1 (Rep.bl false)
 ·cases e
theorem OQ{a:FE}(h:tD (Dm.Ai a) σ H Q):IE (tD a) σ H Q:=by
 obtain⟨H0,ρ,x,ρ',st,e,k⟩:=h;unfold Dm.Ai at e;split at e
 ·rename_i c ρ1 e1;cases e;exact⟨H0,ρ,_,_,st,e1,fun v H1 Hb t1 r1=>⟨c,Rep.rO r1,k _ H1 Hb t1 (Rep.bl (!c))⟩⟩
 ·cases e
variable{Qt:Bool->Hp->Prop}
theorem rP{a:FE}(h:tDT (Dm.tV a) σ H Qt):IP (tD a) σ H Qt:=by
 obtain⟨H0,ρ,x,ρ',st,e,k⟩:=h;unfold Dm.tV at e;split at e
 ·rename_i c ρ1 e1;cases e;exact⟨H0,ρ,_,_,st,e1,fun v H1 Hb t1 r1=>⟨_,Rep.rO r1,k H1 Hb t1⟩⟩
 ·cases e
theorem Lj{t:FT}(h:tDT (Dm.eU t) σ H Qt):eU (tDT t) σ H Qt:=by
 obtain⟨H0,ρ,x,ρ',st,e,k⟩:=h;unfold Dm.eU at e;split at e
 ·rename_i c ρ1 e1;cases e;exact⟨H0,ρ,_,_,st,e1,fun H1 Hb t1=>k H1 Hb t1⟩
 ·cases e
theorem Lk(h:tDT (Dm.wG t u) σ H Qt):wG (tDT t) (tDT u) σ H Qt:=by
 obtain⟨H0,ρ,x,ρ',st,e,k⟩:=h;unfold Dm.wG at e;split at e
 ·rename_i ρ1 e1;refine⟨H0,ρ,_,ρ1,st,e1,fun H1 Hb t1=>?_⟩;dsimp only;rw[if_pos rfl];exact⟨H1,ρ1,x,ρ',t1.st,e,fun H2 Hc t2=>k H2 Hc (t1.trans t2)⟩
 ·rename_i ρ1 e1;cases e;refine⟨H0,ρ,_,_,st,e1,fun H1 Hb t1=>?_⟩;dsimp only;rw[if_neg Ua];exact k H1 Hb t1
 ·cases e
theorem OR(h:tDT (Dm.tOr t u) σ H Qt):tOr (tDT t) (tDT u) σ H Qt:=by
 obtain⟨H0,ρ,x,ρ',st,e,k⟩:=h;unfold Dm.tOr at e;split at e
 ·rename_i ρ1 e1;cases e;refine⟨H0,ρ,_,_,st,e1,fun H1 Hb t1=>?_⟩;dsimp only;rw[if_pos rfl];exact k H1 Hb t1
 ·rename_i ρ1 e1;refine⟨H0,ρ,_,ρ1,st,e1,fun H1 Hb t1=>?_⟩;dsimp only;rw[if_neg Ua];exact⟨H1,ρ1,x,ρ',t1.st,e,fun H2 Hc t2=>k H2 Hc (t1.trans t2)⟩
 ·cases e
end
end
section
variable{ρ:Dm.Env}{H0 H:Hp}{σ:L2.St}
structure SSt(σ:St)(ρ:Dm.Env)(H0 H:Hp)(σ':St)(ρ':Dm.Env)(H0' H':Hp):Prop where
 st:ay H0' H' σ' ρ'
 stp:Stp (ao σ ρ) H0 H H0' H'
 own:∀a,ao σ' ρ' a->ao σ ρ a\/H a=none
 fx:σ'[0]?=σ[0]?
theorem ESt.sst{σ:St}{ρ ρ':Dm.Env}{H0 H H0' H':Hp}(t:ESt σ ρ H0 H ρ' H0' H'):SSt σ ρ H0 H σ ρ' H0' H':=⟨t.st,t.stp,fun a z=>.inl (t.own a z),rfl⟩
theorem SSt.refl{σ:St}(st:ay H0 H σ ρ):SSt σ ρ H0 H σ ρ H0 H:=(ESt.refl st).sst
theorem SSt.trans{σ σ1 σ2:St}{ρ ρ1 ρ2:Dm.Env}{H0 H H1 H' H2 H'':Hp}(t:SSt σ ρ H0 H σ1 ρ1 H1 H')(u:SSt σ1 ρ1 H1 H' σ2 ρ2 H2 H''):SSt σ ρ H0 H σ2 ρ2 H2 H'':=
 ⟨u.st,t.stp.trans u.stp t.own,fun a z=>(u.own a z).elim (t.own a) fun n=>.inr (t.stp.gone n),u.fx.trans t.fx⟩
def B0(σ:St)(ρ:Dm.Env)(H H0' H':Hp)(v:V):RV->Prop
 |.val d=>Rep H0' v d
 |.new d=>∃a,v=V.ref a/\(H a=none\/ao σ ρ a)/\H0' a=none/\Own H0' H' a d
def mU(D:Ends)(σ:St)(ρ:Dm.Env)(H0 H:Hp):Dm.Out->Prop
 |.nx ρ'=>∀σ' H0' H',SSt σ ρ H0 H σ' ρ' H0' H'->D.nx σ' H'
 |.bk ρ'=>∀σ' H0' H',SSt σ ρ H0 H σ' ρ' H0' H'->D.bk σ' H'
 |.ct ρ'=>∀σ' H0' H',SSt σ ρ H0 H σ' ρ' H0' H'->D.ct σ' H'
 |.ret z ρ'=>∀σ' v H0' H',SSt σ ρ H0 H σ' ρ' H0' H'->B0 σ ρ H H0' H' v z->(∀d a,z=.new d->v=.ref a->¬ao σ' ρ' a)->D.rt v H'
def tDS(g:FS):TS:=fun D σ H=>∃H0 ρ o,ay H0 H σ ρ/\g ρ=some o/\mU D σ ρ H0 H o
theorem mU.pre{D:Ends}{σ σ1:St}{ρ ρ1:Dm.Env}{H0 H H1 H':Hp}{o:Dm.Out}(t:SSt σ ρ H0 H σ1 ρ1 H1 H')(k:mU D σ ρ H0 H o):mU D σ1 ρ1 H1 H' o:=by
 cases o with
 |nx ρ'=>exact fun σ' H0' H' u=>k σ' H0' H' (t.trans u)
 |bk ρ'=>exact fun σ' H0' H' u=>k σ' H0' H' (t.trans u)
 |ct ρ'=>exact fun σ' H0' H' u=>k σ' H0' H' (t.trans u)
 |ret z ρ'=>
  refine fun σ' v H0' H'' u r no=>k σ' v H0' H'' (t.trans u) ?_ no;cases z with
  |val d=>exact r
  |new d=>
   obtain⟨a,e,n,n0,w⟩:=r;refine⟨a,e,?_,n0,w⟩;rcases n with n | n
   ·exact .inl (t.stp.gone n)
   ·exact(t.own a n).symm
theorem ay.mask(st:ay H0 H σ ρ)(i:Nat):ay H0 H σ (ρ.set i .un) where
 same:=st.same
 len:=by rw[Ug];exact st.len
 sh:=fun j d h=>by
  by_cases q:i=j
  ·subst q;rw[Vn]at h;simp only[if_true]at h;split at h<;>cases h
  ·rw[gc q]at h;exact st.sh j d h
 ow:=fun j d h=>by
  by_cases q:i=j
  ·subst q;rw[Vn]at h;simp only[if_true]at h;split at h<;>cases h
  ·rw[gc q]at h;exact st.ow j d h
 dis:=fun j j' d d' a h1 h2 h3 h4=>by
  by_cases q:i=j
  ·subst q;rw[Vn]at h1;simp only[if_true]at h1;split at h1<;>cases h1
  ·by_cases q':i=j'
   ·subst q';rw[Vn]at h2;simp only[if_true]at h2;split at h2<;>cases h2
   ·rw[gc q]at h1;rw[gc q']at h2;exact st.dis j j' d d' a h1 h2 h3 h4
theorem cO{i:Nat}{a:Addr}(h:ao σ (ρ.set i .un) a):∃(j:Nat) (d:Dat),j≠i/\ρ[j]?=some (Dm.Cell.ow d)/\σ[j]?=some (some (V.ref a)):=by
 obtain⟨j,d,h1,h2⟩:=h;by_cases q:i=j
 ·subst q;rw[Vn]at h1;simp only[if_true]at h1;split at h1<;>cases h1
 ·rw[gc q]at h1;exact⟨j,d,fun z=>q z.symm,h1,h2⟩
end
section
variable{D:Ends}{σ:St}{H:Hp}
theorem RU(h:tDS Dm.sNx D σ H):Bo D σ H:=by obtain⟨H0,ρ,o,st,e,k⟩:=h;cases e;exact k σ H0 H (.refl st)
theorem OS{s u:FS}(h:tDS (Dm.aB s u) D σ H):zX (tDS s) (tDS u) D σ H:=by
 obtain⟨H0,ρ,o,st,e,k⟩:=h;unfold Dm.aB at e;split at e
 ·rename_i ρ1 e1;exact⟨H0,ρ,.nx ρ1,st,e1,fun σ' H0' H' t=>⟨H0',ρ1,o,t.st,e,k.pre t⟩⟩
 ·rename_i h1;cases o with
  |nx ρ1=>exact absurd e (h1 ρ1)
  |bk ρ1=>exact⟨H0,ρ,_,st,e,k⟩
  |ct ρ1=>exact⟨H0,ρ,_,st,e,k⟩
  |ret z ρ1=>exact⟨H0,ρ,_,st,e,k⟩
theorem Ll{f:FE}(h:tDS (Dm.sE f) D σ H):tO (tD f) D σ H:=by
 obtain⟨H0,ρ,o,st,e,k⟩:=h;unfold Dm.sE at e;split at e
 ·cases e
 ·rename_i x ρ1 e1;cases e;exact⟨H0,ρ,x,ρ1,st,e1,fun v H0' H' t r=>k σ H0' H' t.sst⟩
theorem OT{f:FE}(h:tDS (Dm.sR f) D σ H):Oq (tD f) D σ H:=by
 obtain⟨H0,ρ,o,st,e,k⟩:=h;unfold Dm.sR at e;split at e
 ·cases e
 ·rename_i d ρ1 e1;cases e;refine⟨H0,ρ,_,ρ1,st,e1,fun v H0' H' t r=>?_⟩;obtain⟨a,e,n,no,n0,w⟩:=r;exact k σ v H0' H' t.sst ⟨a,e,.inl n,n0,w⟩ fun d' a' _ e' z=>by rw[e]at e';cases e';exact no z
 ·rename_i d ρ1 e1;cases e;exact⟨H0,ρ,_,ρ1,st,e1,fun v H0' H' t r=>k σ v H0' H' t.sst r fun d' a' z=>by cases z⟩
 ·rename_i i ρ1 e1;split at e
  ·rename_i d h1;cases e;refine⟨H0,ρ,_,ρ1,st,e1,fun v H0' H' t r=>?_⟩;obtain⟨q,_⟩:=r;obtain⟨a,q',n0,w⟩:=t.st.ow i d h1;rw[q]at q';cases q';refine k σ _ H0' H' ⟨t.st.mask i,t.stp,fun b z=>?_,rfl⟩ ⟨a,rfl,.inr (t.own a ⟨i,d,h1,q⟩),n0,w⟩ fun d' a' _ e' z=>?_
   ·obtain⟨j,d2,_,z1,z2⟩:=cO z;exact .inl (t.own b ⟨j,d2,z1,z2⟩)
   ·cases e';obtain⟨j,d2,hj,z1,z2⟩:=cO z;exact hj (t.st.dis j i d2 d a z1 h1 z2 q)
  ·rename_i d h1;cases e;refine⟨H0,ρ,_,ρ1,st,e1,fun v H0' H' t r=>?_⟩;obtain⟨q,_⟩:=r;obtain⟨u,q',w⟩:=t.st.sh i d h1;rw[q]at q';cases q';exact k σ _ H0' H' t.sst w fun d' a' z=>by cases z
  ·cases e
theorem OU{t:FT}{a b:FS}(h:tDS (Dm.sIf t a b) D σ H):KH (tDT t) (tDS a) (tDS b) D σ H:=by
 obtain⟨H0,ρ,o,st,e,k⟩:=h;unfold Dm.sIf at e;split at e
 ·cases e
 ·rename_i ρ1 e1;refine⟨H0,ρ,true,ρ1,st,e1,fun H1 Hb t1=>?_⟩;dsimp only;rw[if_pos rfl];exact⟨H1,ρ1,o,t1.st,e,k.pre t1.sst⟩
 ·rename_i ρ1 e1;refine⟨H0,ρ,false,ρ1,st,e1,fun H1 Hb t1=>?_⟩;dsimp only;rw[if_neg Ua];exact⟨H1,ρ1,o,t1.st,e,k.pre t1.sst⟩
end
section
variable{ρ:Dm.Env}{σ:St}{i:Nat}{H0 H:Hp}{d:Dat}{a:Addr}{b:Addr}{o:HO}{v:V}
theorem fR{i j:Nat}{c d:Option V}(h:(σ.set i c)[j]?=some d):(j=i/\d=c)\/(j≠i/\σ[j]?=some d):=by
 by_cases e:j=i
 ·subst e;by_cases l:j<σ.length
  ·rw[TR l]at h;exact .inl ⟨rfl,(Option.some.inj h).symm⟩
  ·rw[Uk (by simpa using VH.mp l)]at h;cases h
 ·rw[gc (Ue e)]at h;exact .inr ⟨e,h⟩
theorem ay.inσ{c d:Dm.Cell}(st:ay H0 H σ ρ)(h:(ρ.set i c)[i]?=some d):i<σ.length:=by have:=(Tj.mp h).1;rw[Ug]at this;rw[st.len];exact this
theorem dm(h:ao (σ.set i (some v)) (ρ.set i (.sh d)) b):ao σ ρ b:=by
 obtain⟨j,d',h1,h2⟩:=h;rcases aQ h1 with⟨_,z⟩ | ⟨hj,h1⟩
 ·cases z
 ·rcases fR h2 with⟨z,_⟩ | ⟨_,h2⟩
  ·exact absurd z hj
  ·exact⟨j,d',h1,h2⟩
theorem ay.rQ(st:ay H0 H σ ρ)(r:Rep H0 v d):ay H0 H (σ.set i (some v)) (ρ.set i (.sh d)) where
 same:=st.same
 len:=by rw[Ug,Ug];exact st.len
 sh:=fun j d' h=>by
  rcases aQ h with⟨rfl,z⟩ | ⟨hj,h'⟩
  ·cases z;exact⟨v,TR (st.inσ h),r⟩
  ·obtain⟨u,q,w⟩:=st.sh j d' h';exact⟨u,by rw[gc (Ue hj)];exact q,w⟩
 ow:=fun j d' h=>by
  rcases aQ h with⟨_,z⟩ | ⟨hj,h'⟩
  ·cases z
  ·obtain⟨u,q,w⟩:=st.ow j d' h';exact⟨u,by rw[gc (Ue hj)];exact q,w⟩
 dis:=fun j k d1 d2 b h1 h2 h3 h4=>by
  rcases aQ h1 with⟨_,z⟩ | ⟨hj,h1⟩
  ·cases z
  rcases aQ h2 with⟨_,z⟩ | ⟨hk,h2⟩
  ·cases z
  rw[gc (Ue hj)]at h3;rw[gc (Ue hk)]at h4;exact st.dis j k d1 d2 b h1 h2 h3 h4
theorem ay.B3(st:ay H0 H σ ρ)(no:¬ao σ ρ a)(n0:H0 a=none)(w:Own H0 H a d):ay H0 H (σ.set i (some (.ref a))) (ρ.set i (.ow d)) where
 same:=st.same
 len:=by rw[Ug,Ug];exact st.len
 sh:=fun j d' h=>by
  rcases aQ h with⟨_,z⟩ | ⟨hj,h'⟩
  ·cases z
  ·obtain⟨u,q,w⟩:=st.sh j d' h';exact⟨u,by rw[gc (Ue hj)];exact q,w⟩
 ow:=fun j d' h=>by
  rcases aQ h with⟨rfl,z⟩ | ⟨hj,h'⟩
  ·cases z;exact⟨a,TR (st.inσ h),n0,w⟩
  ·obtain⟨u,q,w⟩:=st.ow j d' h';exact⟨u,by rw[gc (Ue hj)];exact q,w⟩
 dis:=fun j k d1 d2 b h1 h2 h3 h4=>by
  rcases aQ h1 with⟨e1,z1⟩ | ⟨hj,h1'⟩
  ·rcases aQ h2 with⟨e2,z2⟩ | ⟨hk,h2'⟩
   ·rw[e1,e2]
   ·rcases fR h3 with⟨_,z⟩ | ⟨z,_⟩
    ·cases z;rw[gc (Ue hk)]at h4;exact absurd ⟨k,d2,h2',h4⟩ no
    ·exact absurd e1 z
  ·rcases aQ h2 with⟨e2,z2⟩ | ⟨hk,h2'⟩
   ·rcases fR h4 with⟨_,z⟩ | ⟨z,_⟩
    ·cases z;rw[gc (Ue hj)]at h3;exact absurd ⟨j,d1,h1',h3⟩ no
    ·exact absurd e2 z
   ·rw[gc (Ue hj)]at h3;rw[gc (Ue hk)]at h4;exact st.dis j k d1 d2 b h1' h2' h3 h4
theorem rR{a b:Addr}(h:ao (σ.set i (some (.ref a))) (ρ.set i (.ow d)) b):b=a\/ao σ ρ b:=by
 obtain⟨j,d',h1,h2⟩:=h;rcases aQ h1 with⟨e,_⟩ | ⟨hj,h1⟩
 ·rcases fR h2 with⟨_,z⟩ | ⟨z,_⟩
  ·cases z;exact .inl rfl
  ·exact absurd e z
 ·rcases fR h2 with⟨z,_⟩ | ⟨_,h2⟩
  ·exact absurd z hj
  ·exact .inr ⟨j,d',h1,h2⟩
theorem ay.write{d d':Dat}(st:ay H0 H σ ρ)(e:ρ[i]?=some (.ow d))(q:σ[i]?=some (some (V.ref a)))(w':Own H0 (upd H a o) a d') :
  ay H0 (upd H a o) σ (ρ.set i (.ow d')):=by
 obtain⟨a',q',n,w⟩:=st.ow i d e;rw[q]at q';cases q';refine⟨fun b u z=>?_,by rw[Ug];exact st.len,fun j d1 h=>?_,fun j d1 h=>?_,fun j k d1 d2 b h1 h2 h3 h4=>?_⟩
 ·rw[aj (az z n)];exact st.same _ _ z
 ·rcases aQ h with⟨_,z⟩ | ⟨hj,h'⟩
  ·cases z
  ·exact st.sh j d1 h'
 ·rcases aQ h with⟨rfl,z⟩ | ⟨hj,h'⟩
  ·cases z;exact⟨a,q,n,w'⟩
  ·obtain⟨b,q1,n1,w1⟩:=st.ow j d1 h';have nb:b≠a:=fun y=>hj (st.dis j i d1 d a h' e (y▸q1) q);exact⟨b,q1,n1,w1.mono (av.refl _) (aj nb)⟩
 ·have f:∀{j:Nat} {d1:Dat},(ρ.set i (.ow d'))[j]?=some (.ow d1)->∃d2,ρ[j]?=some (.ow d2):=fun {j d1} h=>by
   rcases aQ h with⟨rfl,_⟩ | ⟨_,h'⟩
   ·exact⟨d,e⟩
   ·exact⟨d1,h'⟩
  obtain⟨x1,y1⟩:=f h1;obtain⟨x2,y2⟩:=f h2;exact st.dis j k x1 x2 b y1 y2 h3 h4
theorem cz{d d':Dat}(e:ρ[i]?=some (.ow d))(h:ao σ (ρ.set i (.ow d')) b):ao σ ρ b:=by
 obtain⟨j,d1,h1,h2⟩:=h;rcases aQ h1 with⟨rfl,_⟩ | ⟨_,h'⟩
 ·exact⟨j,d,e,h2⟩
 ·exact⟨j,d1,h',h2⟩
theorem Stp.write(w:ao σ ρ a):Stp (ao σ ρ) H0 H H0 (upd H a o):=
 ⟨av.refl _,fun b u e n=>by rw [aj (show b≠a from fun z=>n (by rw [z];exact w))];exact e,fun b u e=>.inr (.inl e),fun b u e=>by
  by_cases z:b=a
  ·subst z;exact⟨o,ak⟩
  ·exact⟨u,by rw[aj z];exact e⟩⟩
end
section
variable{D:Ends}{σ:St}{H:Hp}
section
variable{f:FE}{is:List Nat}{ρ:Dm.Env}{body:FS}{a:Addr}{i:Nat}{ds:List Dat}{d:Dat}{bd:Dm.FB}{n:Nat}{xs:List V}{vs:List V}{H0:Hp}{k:Nat}{fi:Dm.FI}{t:FT}{g:TG}{o:HO}{Q:VK}{E:XK}
theorem B4(h:tDS (Dm.sA i f) D σ H):wI (tD f) (jB i) D σ H:=by
 obtain⟨H0,ρ,o,st,e,k⟩:=h;unfold Dm.sA at e;split at e
 ·cases e
 rename_i hi0;split at e
 ·cases e
 ·rename_i d ρ1 e1;cases e;refine⟨H0,ρ,_,ρ1,st,e1,fun v H0' H' t r=>?_⟩;obtain⟨a,e,n,no,n0,w⟩:=r;subst e;refine k _ H0' H' ⟨t.st.B3 no n0 w,t.stp,fun b z=>?_,gc hi0⟩;rcases rR z with rfl | z
  ·exact .inr n
  ·exact .inl (t.own b z)
 ·rename_i x ρ1 _ e1;split at e
  ·cases e
  ·rename_i d ρ2 e2;cases e;refine⟨H0,ρ,_,ρ1,st,e1,fun v H0' H' t r=>?_⟩;obtain⟨H1,t1,b1,r1,_,_⟩:=take1 t (av.refl _) r e2;exact k _ H1 H' ⟨t1.st.rQ r1,t1.stp,fun b z=>.inl (t1.own b (dm z)),gc hi0⟩
theorem yC{j:Nat}(h:Def ρ j):Def (ρ.set i (.sh d)) j:=trivial
noncomputable def dW:List Nat->TGs
 |[]=>Ou
 |i::is=>IF (jB i) (dW is)
theorem rS{H0 H:Hp}{Q:St->Hp->Prop}:∀{is:List Nat} {xs:List V} {ds:List Dat} {σ:St} {ρ ρ':Dm.Env},ay H0 H σ ρ->aD H0 xs ds->Dm.sets is ds ρ=some ρ' ->
  (∀σ',ay H0 H σ' ρ'->(∀a,ao σ' ρ' a->ao σ ρ a)->(∀j,j∉is->σ'[j]?=σ[j]?)->(∀j,Def ρ j->Def ρ' j)->σ'[0]?=σ[0]?->Q σ' H)->dW is xs σ H Q
 |[],_,[],σ,ρ,ρ',st,r,e,k=>by cases r;cases e;exact⟨rfl,k σ st (fun _ z=>z) (fun _ _=>rfl) (fun _ z=>z) rfl⟩
 |i::is,_,d::ds,σ,ρ,ρ',st,r,e,k=>by
  cases r with
  |cons h r=>
   unfold Dm.sets at e;split at e
   ·cases e
   rename_i hi0;refine⟨_,_,rfl,?_⟩;refine rS (st.rQ h) r e fun σ' st' o' n' d' f'=>k σ' st' (fun a z=>dm (o' a z)) (fun j hj=>?_) (fun j z=>d' j (yC z)) (f'.trans (gc hi0));rw[n' j fun z=>hj (Tq _ z)];exact gc fun z=>hj (by rw[z];exact To)
 |[],_,_::_,_,_,_,_,_,e,_=>by cases e
 |_::_,_,[],_,_,_,_,_,e,_=>by cases e
theorem mV:∀{is:List Nat} {ds:List Dat} {ρ ρ':Dm.Env},Dm.sets is ds ρ=some ρ'->ds.length=is.length
 |[],[],_,_,_=>rfl
 |i::is,_::ds,_,_,e=>by
  unfold Dm.sets at e;split at e
  ·cases e
  ·simp[mV (is:=is) (ds:=ds) e]
 |[],_::_,_,_,e=>by cases e
 |_::_,[],_,_,e=>by cases e
def BD(is:List Nat)(g:TG)(bd:Dm.FB):Prop:=∀(H0 H:Hp) (σ:St) (ρ ρ':Dm.Env) (x:V) (d:Dat) (Q:St->Hp->Prop),ay H0 H σ ρ->Rep H0 x d->bd d ρ=some ρ' ->
 (∀σ',ay H0 H σ' ρ'->(∀a,ao σ' ρ' a->ao σ ρ a)->(∀j,j∉is->σ'[j]?=σ[j]?)->(∀j,Def ρ j->Def ρ' j)->σ'[0]?=σ[0]?->Q σ' H)->g x σ H Q
theorem yD(i:Nat):BD [i] (jB i) (Dm.bN i):=by
 intro H0 H σ ρ ρ' x d Q st r e k;unfold Dm.bN at e;split at e
 ·cases e
 rename_i hi0;cases e;refine k _ (st.rQ r) (fun a z=>dm z) (fun j hj=>?_) (fun j h=>yC h) (gc hi0);exact gc (fun z=>hj (by rw[z];exact TJ.mpr rfl))
theorem B5{K:eg}(hn:is.length=n)(h:tDS (Dm.sU is f) D σ H):wI (tD f) (KN K n (dW is)) D σ H:=by
 obtain⟨H0,ρ,o,st,e,k⟩:=h;unfold Dm.sU at e;split at e
 ·cases e
 ·rename_i x ρ1 e1;split at e
  ·rename_i ds ρ2 e2;split at e
   ·cases e
   ·rename_i ρ3 e3;cases e;refine⟨H0,ρ,_,ρ1,st,e1,fun v H0' H' t r=>?_⟩;obtain⟨H1,t1,b1,r1,_,_⟩:=take1 t (av.refl _) r e2;cases r1 with
    |tup q rs=>refine⟨_,_,rfl,SqT.of (t1.st.same _ _ q),by rw[rs.length,mV e3,hn],?_⟩;exact rS t1.st rs e3 fun σ' st' o' _ _ f'=>k σ' H1 H' ⟨st',t1.stp,fun a z=>.inl (t1.own a (o' a z)),f'⟩
  ·cases e
theorem B6{K:eg}(is:List Nat)(hn:is.length=n):BD is (KN K n (dW is)) (Dm.bT is):=by
 intro H0 H σ ρ ρ' x d Q st r e k;unfold Dm.bT at e;split at e
 ·cases r with
  |tup q rs=>exact⟨_,_,rfl,SqT.of (st.same _ _ q),by rw[rs.length,mV e,hn],rS st rs e k⟩
 ·cases e
theorem OV{K:eg}(h:tDS (Dm.pV i f) D σ H):tO (tBM K "list" rL (rA i) (tDA [f])) D σ H:=by
 obtain⟨H0,ρ,o,st,e,k⟩:=h;unfold Dm.pV at e;split at e
 ·rename_i ds0 h0;obtain⟨a0,q0,n0,w0⟩:=st.ow i _ h0;refine⟨_,q0,?_⟩;split at e
  ·cases e
  rename_i x ρ1 e1;split at e
  ·cases e
  rename_i d ρ2 e2;split at e
  ·rename_i ds h2;split at e
   ·rename_i hz;cases e;obtain⟨xs0,y0,_⟩:=w0;refine⟨.inl ⟨rfl,xs0,.inl (.inl y0)⟩,?_⟩;refine⟨H0,ρ,[x],ρ1,st,by unfold Dm.eAs;rw[e1];rfl,fun vs H0' H' t r=>?_⟩;cases r with
    |cons r rr=>
     cases rr;obtain⟨H1,t1,b1,r1,_,_⟩:=take1 t (av.refl _) r e2;obtain⟨a,q,n,w⟩:=t1.st.ow i _ h2;rw[q0]at q;cases q;obtain⟨xs,y,rs⟩:=w;refine⟨a0,xs,_,rfl,rfl,y,by rw[rs.length];exact Tw hz (by decide),?_⟩;have ow:ao σ ρ2 a0:=⟨i,_,h2,q0⟩
     refine k σ H1 _ ⟨t1.st.write h2 q0 ⟨_,ak,rs.append (.cons r1 .nil)⟩,t1.stp.trans (Stp.write ow) fun b z=>.inl (t1.own b z),fun b z=>.inl (t1.own b (cz h2 z)),rfl⟩
   ·cases e
  ·cases e
 ·cases e
theorem Lm(n:Nat)(i:Int):Dm.ixN n i=L2.ixN n i:=rfl
theorem OW{j f:FE}(h:tDS (Dm.wQ i j f) D σ H):wI (tD f) (jC (rA i) (tD j) t7) D σ H:=by
 obtain⟨H0,ρ,o,st,e,k⟩:=h;unfold Dm.wQ at e;split at e
 ·cases e
 rename_i x ρ1 e1;split at e
 ·cases e
 rename_i d ρ2 e2;split at e
 case h_2=>cases e
 rename_i d0 h2;split at e
 ·rename_i m ρ3 e3;split at e
  ·rename_i ds h3;split at e
   ·cases e
   ·rename_i p e4;cases e;refine⟨H0,ρ,_,ρ1,st,e1,fun v H0' H' t r=>?_⟩;obtain⟨H1,t1,b1,r1,_,_⟩:=take1 t (av.refl _) r e2;obtain⟨a0,q0,_,_⟩:=t1.st.ow i _ h2;refine⟨_,q0,H1,ρ2,_,ρ3,t1.st,e3,fun u H2 Hc t2 r2=>?_⟩;obtain⟨a,q,n,w⟩:=t2.st.ow i _ h3;rw[q0]at q;cases q;obtain⟨xs,y,rs⟩:=w;refine⟨a0,xs,m,p,rfl,Rep.isInt r2,y,by rw[rs.length];exact e4,?_⟩;have ow:ao σ ρ3 a0:=⟨i,_,h3,q0⟩
    have tt:=t1.trans t2;refine k σ H2 _ ⟨t2.st.write h3 q0 ⟨_,ak,rs.set (r1.mono t2.stp.s0) p⟩,tt.stp.trans (Stp.write ow) fun b z=>.inl (tt.own b z),fun b z=>.inl (tt.own b (cz h3 z)),rfl⟩
  ·cases e
 ·cases e
theorem Gd(h:tDS (Dm.whD t body n) D σ H):Bv (tDT t) (tDS body) D σ H:=by
 refine⟨fun m σ H=>tDS (Dm.whD t body m) D σ H,⟨n,h⟩,?_⟩;rintro m σ H ⟨H0,ρ,o,st,e,k⟩;cases m with
 |zero=>unfold Dm.whD at e;cases e
 |succ m=>
  unfold Dm.whD at e;split at e
  ·cases e
  ·rename_i ρ1 e1;cases e;refine⟨H0,ρ,false,ρ1,st,e1,fun H1 Hb t1=>?_⟩;dsimp only;rw[if_neg Ua];exact k σ H1 Hb t1.sst
  ·rename_i ρ1 e1;refine⟨H0,ρ,true,ρ1,st,e1,fun H1 Hb t1=>?_⟩;dsimp only;rw[if_pos rfl];refine⟨fun σ' H'=>tDS (Dm.whD t body m) D σ' H',fun σ' H' q=>⟨m,WK m,q⟩,?_⟩;have k1:=k.pre t1.sst;split at e
   ·rename_i ρ2 e2;exact⟨H1,ρ1,_,t1.st,e2,fun σ' H0' H' t2=>⟨H0',ρ2,o,t2.st,e,k1.pre t2⟩⟩
   ·rename_i ρ2 e2;exact⟨H1,ρ1,_,t1.st,e2,fun σ' H0' H' t2=>⟨H0',ρ2,o,t2.st,e,k1.pre t2⟩⟩
   ·rename_i ρ2 e2;cases e;exact⟨H1,ρ1,_,t1.st,e2,k1⟩
   ·rename_i v ρ2 e2;cases e;exact⟨H1,ρ1,_,t1.st,e2,k1⟩
   ·cases e
def JW(J:It)(H00:Hp)(ys:List Dat):Prop:=∀H0 H,av H00 H0->av H0 H->(∀i,ys.length<=i->J.stop i H) /\
 ∀(i:Nat) (d:Dat),ys[i]?=some d->J.go i H/\∀x H',J.yld i H x H'->∃H0',aJ H0 H H0' H'/\Rep H0' x d
def tDI(fi:Dm.FI):TI:=fun σ H R=>∃H0 ρ ys ρ',ay H0 H σ ρ/\fi ρ=some (ys,ρ')/\∀J H0' H',ESt σ ρ H0 H ρ' H0' H'->JW J H0' ys->R J H'
theorem OX(hb:BD is g bd)(h:tDS (Dm.dP fi bd body) D σ H):KQ (tDI fi) g (tDS body) D σ H:=by
 obtain⟨H0,ρ,o,st,e,k⟩:=h;unfold Dm.dP at e;split at e
 ·cases e
 rename_i ys ρ1 e1;refine⟨H0,ρ,ys,ρ1,st,e1,fun J H00 Hb t1 jw=>?_⟩;refine ⟨fun i m σ H=>∃ H0 ρ o,ay H0 H σ ρ∧av H00 H0∧m=ys.length-i∧i≤ys.length∧Dm.kE bd body (ys.drop i) ρ=some o∧mU D σ ρ H0 H o,
  ⟨ys.length,H00,ρ1,o,t1.st,av.refl _,by simp,T8 _,by simpa using e,k.pre t1.sst⟩,?_⟩
 rintro i m σ H ⟨H0,ρ,o,st,s00,rfl,hi,e,k⟩;obtain⟨js,jg⟩:=jw H0 H s00 st.same;by_cases En:i<ys.length
 ·have hd:ys[i]?=some ys[i]:=by simp[En]
  obtain⟨g1,g2⟩:=jg i ys[i] hd;rw[Uz En]at e;unfold Dm.kE at e;refine .inr ⟨g1,fun σ' H'=>∃H0 ρ o,ay H0 H' σ' ρ/\av H00 H0/\Dm.kE bd body (ys.drop (i+1)) ρ=some o/\mU D σ' ρ H0 H' o,?_,fun x H' y=>?_⟩
  ·rintro σ' H' ⟨H0',ρ',o',h1,h2,h3,h4⟩;exact⟨ys.length-(i+1),by lia,H0',ρ',o',h1,h2,rfl,En,h3,h4⟩
  ·obtain⟨H0',gr,rx⟩:=g2 x H' y;split at e
   ·cases e
   ·rename_i ρ2 e2;have t2:=ESt.grow st gr;refine hb H0' H' σ ρ ρ2 x ys[i] _ t2.st rx e2 fun σ2 st2 o2 _ _ f2=>?_;have t3:SSt σ ρ H0 H σ2 ρ2 H0' H':=⟨st2,t2.stp,fun a z=>.inl (o2 a z),f2⟩
    have k3:=k.pre t3;have s3:av H00 H0':=s00.trans gr.s0;split at e
    ·rename_i ρ3 e3;exact⟨H0',ρ2,_,st2,e3,fun σ4 H4 Hd t4=>⟨H4,ρ3,o,t4.st,s3.trans t4.stp.s0,e,k3.pre t4⟩⟩
    ·rename_i ρ3 e3;exact⟨H0',ρ2,_,st2,e3,fun σ4 H4 Hd t4=>⟨H4,ρ3,o,t4.st,s3.trans t4.stp.s0,e,k3.pre t4⟩⟩
    ·rename_i ρ3 e3;cases e;exact⟨H0',ρ2,_,st2,e3,k3⟩
    ·rename_i v ρ3 e3;cases e;exact⟨H0',ρ2,_,st2,e3,k3⟩
    ·cases e
 ·have e':i=ys.length:=by lia
  subst e';rw[V5]at e;cases e;exact .inl ⟨js _ (Nat.le_refl _),k σ H0 H (.refl st)⟩
theorem Ge{K:eg}(hq:Rd H0 a (.lst xs))(rs:aD H0 xs ds):JW (Itl K a) H0 ds:=by intro H0' H s0 s1;have q:SqL K H a xs:=.inl (av.rd s1 (av.rd s0 hq));refine⟨fun i hi=>⟨xs,q,by rw[rs.length];exact hi⟩,fun i d e=>?_⟩;obtain⟨v,hv,rv⟩:=rs.get e;refine⟨⟨xs,v,q,hv⟩,fun x H' y=>?_⟩;obtain⟨e1,y⟩:=y;subst e1;have z:=y xs q;rw[hv]at z;cases z;exact⟨H0',aJ.refl s1,rv.mono s0⟩
theorem Ln{K:eg}(hq:H0 a=some (.tup xs))(rs:aD H0 xs ds):JW (Itt K a) H0 ds:=by intro H0' H s0 s1;have q:SqT K H a xs:=.inl (.inl (s1 _ _ (s0 _ _ hq)));refine⟨fun i hi=>⟨xs,q,by rw[rs.length];exact hi⟩,fun i d e=>?_⟩;obtain⟨v,hv,rv⟩:=rs.get e;refine⟨⟨xs,v,q,hv⟩,fun x H' y=>?_⟩;obtain⟨e1,y⟩:=y;subst e1;have z:=y xs q;rw[hv]at z;cases z;exact⟨H0',aJ.refl s1,rv.mono s0⟩
theorem ue{lo:Int}:JW (Itr lo n) H0 (Dm.ups lo n):=by
 intro H0' H s0 s1;have el:(Dm.ups lo n).length=n:=by simp[Dm.ups]
 refine⟨fun i hi=>by rw[el]at hi;exact hi,fun i d e=>?_⟩;have hi:i<n:=by have:=(Tj.mp e).1;rw[el]at this;exact this
 have hd:d=.int (lo+i):=by unfold Dm.ups at e;rw[TM,U9 hi]at e;exact(Option.some.inj e).symm
 refine⟨hi,fun x H' y=>?_⟩;obtain⟨rfl,rfl⟩:=y;subst hd;exact⟨H0',aJ.refl s1,.int _⟩
variable{R:It->Hp->Prop}
theorem RW{K:eg}(h:tDI (Dm.iL f) σ H R):tR K (tD f) σ H R:=by
 obtain⟨H0,ρ,ys,ρ',st,e,k⟩:=h;unfold Dm.iL at e;split at e
 ·cases e
 rename_i x ρ1 e1;split at e
 ·rename_i ds ρ2 e2;cases e;refine⟨H0,ρ,_,ρ1,st,e1,fun v H0' H' t r=>?_⟩;obtain⟨H1,t1,b1,r1,_,_⟩:=take1 t (av.refl _) r e2;cases r1 with
  |lst q rs=>exact⟨_,rfl,⟨_,.inl (av.rd t1.st.same q)⟩,k _ H1 H' t1 (Ge q rs)⟩
 ·cases e
theorem RX{K:eg}(h:tDI (Dm.iT f) σ H R):Bx K (tD f) σ H R:=by
 obtain⟨H0,ρ,ys,ρ',st,e,k⟩:=h;unfold Dm.iT at e;split at e
 ·cases e
 rename_i x ρ1 e1;split at e
 ·rename_i ds ρ2 e2;cases e;refine⟨H0,ρ,_,ρ1,st,e1,fun v H0' H' t r=>?_⟩;obtain⟨H1,t1,b1,r1,_,_⟩:=take1 t (av.refl _) r e2;cases r1 with
  |tup q rs=>exact⟨_,rfl,⟨_,.inl (.inl (t1.st.same _ _ q))⟩,k _ H1 H' t1 (Ln q rs)⟩
 ·cases e
theorem OY(h:tDI (Dm.iR1 f) σ H R):IG (tDA [f]) σ H R:=by
 obtain⟨H0,ρ,ys,ρ',st,e,k⟩:=h;unfold Dm.iR1 at e;split at e
 ·rename_i j ρ1 e1;split at e
  ·rename_i hb;cases e;refine⟨H0,ρ,[.val (.int j)],_,st,by unfold Dm.eAs;rw[e1];rfl,fun vs H0' H' t r=>?_⟩;cases r with
   |cons r rr=>cases rr;cases Rep.isInt r;have h1:=hb.1;have h2:=hb.2;unfold Dm.BIG at h1 h2;exact⟨j,rfl,by lia,by lia,k _ H0' H' t ue⟩
  ·cases e
 ·cases e
theorem OZ{f g:FE}(h:tDI (Dm.iR2 f g) σ H R):II (tDA [f,g]) σ H R:=by
 obtain⟨H0,ρ,ys,ρ',st,e,k⟩:=h;unfold Dm.iR2 at e;split at e
 ·rename_i i ρ1 e1;split at e
  ·rename_i j ρ2 e2;split at e
   ·rename_i hb;cases e;refine⟨H0,ρ,[.val (.int i),.val (.int j)],_,st,by unfold Dm.eAs;rw[e1];dsimp only;unfold Dm.eAs;rw[e2];rfl,fun vs H0' H' t r=>?_⟩;cases r with
    |cons r rr=>
     cases rr with
     |cons r' rr=>cases rr;cases Rep.isInt r;cases Rep.isInt r';obtain⟨h1,h2,h3,h4⟩:=hb;unfold Dm.BIG at h1 h2 h3 h4;exact⟨i,j,rfl,⟨by lia,by lia,by lia,by lia⟩,k _ H0' H' t ue⟩
   ·cases e
  ·cases e
 ·cases e
def tLC(wi:TI)(own:Nat)(g:TG)(tt:TT)(te:TE):TE:=fun σ H Q=>wi σ H fun J H1=>∀D,H1 D=none->∃W:Nat->Nat->St->Hp->Prop,
 (∃m,W 0 m (σ++Dk own none) (upd H1 D (.lst [])))/\∀i m σ' H',W i m σ' H' ->
  (J.stop i H'∧Q (.ref D) H')∨(J.go i H'∧∀ x H2,J.yld i H' x H2→g x σ' H2 fun σ2 H3=>tt σ2 H3 fun b H4=>if b=true
   then te σ2 H4 fun y H5=>∃DZ,H5 D=some (.lst DZ)/\DZ.length<sizeLine/\∃m',m'<m/\W (i+1) m' σ2 (upd H5 D (.lst (DZ++[y])))
   else ∃m',m'<m/\W (i+1) m' σ2 H4)
theorem ay.aside{H0 H:Hp}{σ:St}(st:ay H0 H σ ρ)(n0:H0 a=none)(no:¬ao σ ρ a):ay H0 (upd H a o) σ ρ where
 same:=fun b u z=>by rw[aj (az z n0)];exact st.same _ _ z
 len:=st.len
 sh:=st.sh
 ow:=fun j d h=>by obtain⟨b,q,n,w⟩:=st.ow j d h;have nb:b≠a:=fun y=>no ⟨j,d,h,y▸q⟩;exact⟨b,q,n,w.mono (av.refl _) (aj nb)⟩
 dis:=st.dis
theorem ay.bZ{H0 H:Hp}{σ:St}(st:ay H0 H σ ρ)(h:H a=none):¬ao σ ρ a:=fun⟨i,d,h1,h2⟩=>by obtain⟨b,q,n,w⟩:=st.ow i d h1;rw[h2]at q;cases q;obtain⟨o,z⟩:=w.some;rw[h]at z;cases z
theorem jM{α:Type}{l:List α}{r:List α}{x:α}(h:(l++r)[i]?=some x)(n:x∉r):i<l.length/\l[i]?=some x:=by
 by_cases hi:i<l.length
 ·rw[Tr hi]at h;exact⟨hi,h⟩
 ·rw[Tt (VH.mp hi)]at h;exact absurd (Vo h) n
theorem B7:Dm.Cell.sh d∉Dk k Dm.Cell.un:=fun h=>by have:=List.eq_of_mem_replicate h;cases this
theorem jN:Dm.Cell.ow d∉Dk k Dm.Cell.un:=fun h=>by have:=List.eq_of_mem_replicate h;cases this
theorem ay.ext{H0 H:Hp}{σ:St}(st:ay H0 H σ ρ)(k:Nat):ay H0 H (σ++Dk k none) (ρ++Dk k .un) where
 same:=st.same
 len:=by simp[st.len]
 sh:=fun i d h=>by obtain⟨hi,h⟩:=jM h B7;obtain⟨v,q,r⟩:=st.sh i d h;exact⟨v,by rw[Tr (by rw[st.len];exact hi)];exact q,r⟩
 ow:=fun i d h=>by obtain⟨hi,h⟩:=jM h jN;obtain⟨v,q,r⟩:=st.ow i d h;exact⟨v,by rw[Tr (by rw[st.len];exact hi)];exact q,r⟩
 dis:=fun i j d e a h1 h2 h3 h4=>by obtain⟨hi,h1⟩:=jM h1 jN;obtain⟨hj,h2⟩:=jM h2 jN;rw[Tr (by rw[st.len];exact hi)]at h3;rw[Tr (by rw[st.len];exact hj)]at h4;exact st.dis i j d e a h1 h2 h3 h4
theorem kH{H0 H:Hp}{σ:St}(st:ay H0 H σ ρ)(h:ao (σ++Dk k none) (ρ++Dk k .un) a):ao σ ρ a:=by obtain⟨i,d,h1,h2⟩:=h;obtain⟨hi,h1⟩:=jM h1 jN;rw[Tr (by rw[st.len];exact hi)]at h2;exact⟨i,d,h1,h2⟩
theorem Stp.aside{O:Addr->Prop}{H0 H H0' H':Hp}{D:Addr}(t:Stp O H0 H H0' H')(hD:H D=none):Stp O H0 H H0' (upd H' D o):=
 ⟨t.s0,fun a u e n=>by rw[aj (az e hD)];exact t.s1 a u e n,t.s2,fun a u e=>by rw[aj (az e hD)];exact t.s3 a u e⟩
theorem ESt.dH{σ:St}{ρ ρ':Dm.Env}{H0 H H0' H':Hp}(t:ESt σ ρ H0 H ρ' H0' H'){D:Addr}(h:H D=some o)(n0:H0 D=none)(no:¬ao σ ρ D):H' D=some o/\H0' D=none/\¬ao σ ρ' D:=by
 refine⟨t.stp.s1 D o h no,?_,fun z=>no (t.own D z)⟩;cases q:H0' D with
 |none=>rfl
 |some u=>
  rcases t.stp.s2 D u q with z | z | z
  ·rw[h]at z;cases z
  ·rw[n0]at z;cases z
  ·exact absurd z no
def JWa(J:It)(H00:Hp)(pa:Option (Addr×HO))(ys:List Dat):Prop:=∀H0 H,av H00 H0->av H0 H->(∀q,pa=some q->H q.1=some q.2)->(∀i,ys.length<=i->J.stop i H) /\
 ∀(i:Nat) (d:Dat),ys[i]?=some d->J.go i H/\∀x H',J.yld i H x H'->∃H0',aJ H0 H H0' H'/\Rep H0' x d
theorem uf{σ:St}{own:Nat}{t:FT}{el:FE}{Q:VK}{H00 Hb:Hp}{ρ1 ρ2:Dm.Env}{ds ys:List Dat}{J:It}{pa:Option (Addr×HO)}(hb:BD is g bd)(hl:∀i∈is,σ.length<=i)
  (st1:ay H00 Hb σ ρ1) (hp:∀q,pa=some q->Hb q.1=some q.2/\H00 q.1=none/\¬ao σ ρ1 q.1) (jw:JWa J H00 pa ds) (hsz:ds.length<=Dm.SZ) (e2:Dm.cK bd t el ds (ρ1++Dk own .un) []=some (ys,ρ2))
  (k:∀v H0' H',ESt σ ρ1 H00 Hb (ρ2.take ρ1.length) H0' H'->fQ Hb H0' H' σ (ρ2.take ρ1.length) v (.new (.lst ys))->(∀q,pa=some q->H' q.1=some q.2/\H0' q.1=none)->Q v H') (D:Addr) (hD:Hb D=none) :
  ∃W:Nat->Nat->St->Hp->Prop,(∃m,W 0 m (σ++Dk own none) (upd Hb D (.lst [])))/\∀i m σ' H',W i m σ' H' ->
  (J.stop i H'∧Q (.ref D) H')∨(J.go i H'∧∀ x H2,J.yld i H' x H2→g x σ' H2 fun σ2 H3=>tDT t σ2 H3 fun b H4=>if b=true
   then tD el σ2 H4 fun y H5=>∃DZ,H5 D=some (.lst DZ)/\DZ.length<sizeLine/\∃m',m'<m/\W (i+1) m' σ2 (upd H5 D (.lst (DZ++[y])))
   else ∃m',m'<m/\W (i+1) m' σ2 H4):=by
 have hpD:∀q,pa=some q->q.1≠D:=fun q e z=>by have:=(hp q e).1;rw[z,hD]at this;cases this
 have noD:¬ao σ ρ1 D:=st1.bZ hD;refine ⟨fun i m σ' H'=>∃ (H0c:Hp) (ρc:Dm.Env) (Ao:List Dat) (wW:List V),ay H0c H' σ' ρc∧av H00 H0c∧m=ds.length-i∧i≤ds.length∧Dm.cK bd t el (ds.drop i) ρc Ao=some (ys,ρ2) ∧
  H' D=some (.lst wW)/\aD H0c wW Ao/\H0c D=none/\Ao.length<=i/\Stp (ao σ ρ1) H00 Hb H0c H'/\(∀j,j<σ.length->σ'[j]?=σ[j]?)/\(∀a,ao σ' ρc a->ao σ ρ1 a)/\(∀j,Def ρ1 j->Def ρc j)/\(∀q,pa=some q->H' q.1=some q.2/\H0c q.1=none/\¬ao σ' ρc q.1),
  ⟨ds.length,H00,ρ1++Dk own .un,[],[],(st1.aside (st1.same.free hD) noD).ext own,av.refl _,by simp,T8 _,by simpa using e2,ak,.nil,st1.same.free hD,T8 _,(Stp.refl _ _ _).aside hD,
   fun j hj=>Tr hj,fun a z=>kH st1 z,fun j z=>trivial,fun q e=>⟨by rw[aj (hpD q e)];exact(hp q e).1,(hp q e).2.1,fun z=>(hp q e).2.2 (kH st1 z)⟩⟩,?_⟩
 rintro i m σ' H' ⟨H0c,ρc,Ao,wW,sc,s00,rfl,hi,ec,hDl,ra,n0,hal,sp,hσ,ho,hdf,hpc⟩;have nOc:¬ao σ' ρc D:=fun z=>noD (ho D z);obtain⟨js,jg⟩:=jw H0c H' s00 sc.same fun q e=>(hpc q e).1;by_cases En:i<ds.length
 ·have hd:ds[i]?=some ds[i]:=by simp[En]
  obtain⟨g1,g2⟩:=jg i ds[i] hd;rw[Uz En]at ec;unfold Dm.cK at ec;refine .inr ⟨g1,fun y H2 yy=>?_⟩;obtain⟨H0',gr,rx⟩:=g2 y H2 yy;split at ec
  ·cases ec
  rename_i ρ3 e3;have t2:=ESt.grow sc gr;obtain⟨hD2,n02,no2⟩:=t2.dH hDl n0 nOc;have hp2:=fun q e=>t2.dH (hpc q e).1 (hpc q e).2.1 (hpc q e).2.2;refine hb H0' H2 σ' ρc ρ3 y ds[i] _ t2.st rx e3 fun σ3 st3 o3 k3 d3 _=>?_;have no3:¬ao σ3 ρ3 D:=fun z=>no2 (o3 D z);have po3:∀q,pa=some q->¬ao σ3 ρ3 q.1:=fun q e z=>(hp2 q e).2.2 (o3 q.1 z);have hσ3:∀j,j<σ.length->σ3[j]?=σ[j]?:=fun j hj=>(k3 j fun z=>VH.mpr (hl j z) hj).trans (hσ j hj);have ho3:∀a,ao σ3 ρ3 a->ao σ ρ1 a:=fun a z=>ho a (o3 a z);have O0:∀j,Def ρ1 j->Def ρ3 j:=fun j z=>d3 j (hdf j z);have sp3:Stp (ao σ ρ1) H00 Hb H0' H2:=sp.trans t2.stp fun a z=>.inl (ho a z);have ra3:=ra.mono gr.s0;have s3:av H00 H0':=s00.trans gr.s0;split at ec
  ·cases ec
  ·rename_i ρ4 e4;refine⟨H0',ρ3,false,ρ4,st3,e4,fun wX H'' t4=>?_⟩;dsimp only;rw[if_neg Ua];obtain⟨hD4,n04,no4⟩:=t4.dH hD2 n02 no3;have hp4:=fun q e=>t4.dH (hp2 q e).1 (hp2 q e).2.1 (po3 q e);exact⟨ds.length-(i+1),by lia,wX,ρ4,Ao,wW,t4.st,s3.trans t4.stp.s0,rfl,En,ec,hD4,ra3.mono t4.stp.s0,n04,Nat.le_succ_of_le hal,sp3.trans t4.stp fun a z=>.inl (ho3 a z),hσ3,fun a z=>ho3 a (t4.own a z),fun j z=>t4.dfn j (O0 j z),hp4⟩
  ·rename_i ρ4 e4;refine⟨H0',ρ3,true,ρ4,st3,e4,fun wX H'' t4=>?_⟩;dsimp only;rw[if_pos rfl];obtain⟨hD4,n04,no4⟩:=t4.dH hD2 n02 no3;have hp4:=fun q e=>t4.dH (hp2 q e).1 (hp2 q e).2.1 (po3 q e);split at ec
   ·cases ec
   rename_i x5 ρ5 e5;split at ec
   ·cases ec
   rename_i y6 ρ6 e6;refine⟨wX,ρ4,x5,ρ5,t4.st,e5,fun v H5 Hc t5 r5=>?_⟩;obtain⟨H6,t6,b6,r6,_,_⟩:=take1 t5 (av.refl _) r5 e6;obtain⟨hD6,n06,no6⟩:=t6.dH hD4 n04 no4;have hp6:=fun q e=>t6.dH (hp4 q e).1 (hp4 q e).2.1 (hp4 q e).2.2;refine⟨wW,hD6,?_,ds.length-(i+1),by lia,H6,ρ6,Ao++[y6],wW++[v],t6.st.aside n06 no6,(s3.trans t4.stp.s0).trans t6.stp.s0,rfl,En,ec,ak,?_,n06,?_,?_,hσ3,fun a z=>ho3 a (t4.own a (t6.own a z)),fun j z=>t6.dfn j (t4.dfn j (O0 j z)),fun q e=>⟨by rw[aj (hpD q e)];exact(hp6 q e).1,(hp6 q e).2.1,(hp6 q e).2.2⟩⟩
   ·rw[ra.length];unfold Dm.SZ at hsz;exact Ve (Nat.le_trans hal (Nat.le_trans (VM En) hsz)) (by decide)
   ·exact((ra3.mono t4.stp.s0).mono t6.stp.s0).append (.cons r6 .nil)
   ·rw[Tz,VC];lia
   ·exact((sp3.trans t4.stp fun a z=>.inl (ho3 a z)).trans t6.stp fun a z=>.inl (ho3 a (t4.own a z))).aside hD
 ·have e':i=ds.length:=by lia
  subst e';rw[V5]at ec;cases ec;refine .inl ⟨js _ (Nat.le_refl _),k _ H0c H' ?_ ?_ fun q e=>⟨(hpc q e).1,(hpc q e).2.1⟩⟩
  ·have xM:σ.length<=ρ2.length:=by
    rw[<- sc.len];refine VH.mp fun z=>?_;have q:=hσ σ'.length z;rw[Uk (Nat.le_refl _),Tv z]at q;cases q
   have tk:∀{j:Nat} {c:Dm.Cell},(ρ2.take ρ1.length)[j]?=some c->j<σ.length/\ρ2[j]?=some c:=fun {j c} h=>by
    have hj:j<ρ1.length:=by
     have:=(Tj.mp h).1;rw[UD]at this
     lia
    rw[U3 hj]at h;exact⟨by rw[st1.len];exact hj,h⟩
   have own':∀a,ao σ (ρ2.take ρ1.length) a->ao σ' ρ2 a:=fun a ⟨j,d,h1,h2⟩=>by obtain⟨hj,h1⟩:=tk h1;exact⟨j,d,h1,(hσ j hj).trans h2⟩
   refine⟨⟨sc.same,?_,fun j d h=>?_,fun j d h=>?_,fun j j' d d' a h1 h2 h3 h4=>?_⟩,sp,fun a z=>ho a (own' a z),fun j z=>?_⟩
   ·rw[UD,<- st1.len];lia
   ·obtain⟨hj,h⟩:=tk h;obtain⟨v,q,r⟩:=sc.sh j d h;exact⟨v,(hσ j hj).symm.trans q,r⟩
   ·obtain⟨hj,h⟩:=tk h;obtain⟨v,q,r⟩:=sc.ow j d h;exact⟨v,(hσ j hj).symm.trans q,r⟩
   ·obtain⟨hj,h1⟩:=tk h1;obtain⟨hj',h2⟩:=tk h2;exact sc.dis j j' d d' a h1 h2 ((hσ j hj).trans h3) ((hσ j' hj').trans h4)
   ·trivial
  ·refine⟨D,rfl,hD,fun⟨j,d,h1,h2⟩=>?_,n0,wW,hDl,ra⟩;have hj:j<ρ1.length:=by
    have:=(Tj.mp h1).1;rw[UD]at this
    lia
   rw[U3 hj]at h1;exact nOc ⟨j,d,h1,(hσ j (by rw[st1.len];exact hj)).trans h2⟩
theorem wY{own:Nat}{el:FE}(hb:BD is g bd)(hl:∀i∈is,σ.length<=i)(h:tD (Dm.bO fi own bd t el) σ H Q) :
  tLC (tDI fi) own g (tDT t) (tD el) σ H Q:=by
 obtain⟨H0,ρ,x,ρ',st,e,k⟩:=h;unfold Dm.bO at e;split at e
 ·cases e
 rename_i ds ρ1 e1;split at e
 case isFalse=>cases e
 rename_i hsz;split at e
 ·cases e
 rename_i ys ρ2 e2;cases e;refine⟨H0,ρ,ds,ρ1,st,e1,fun J H00 Hb t1 jw D hD=>uf (pa:=none) hb hl t1.st (fun q e=>by cases e) (fun H0 H s0 s1 _=>jw H0 H s0 s1) hsz e2 (fun v H0' H' t2 r2 _=>k v H0' H' (t1.trans t2) (r2.early fun a n=>t1.stp.gone n)) D hD⟩
theorem ic{n m:Nat}{H:Hp}(h:spD (Dm.fn n m body) vs H Q E):vs.length=n:=by
 obtain⟨H0,ds,z,s,rs,e,k⟩:=h;unfold Dm.fn at e;split at e
 ·rename_i hl;rw[rs.length];exact hl
 ·cases e
theorem Aq{N:List Str}{n m:Nat}(hm:N.length=n+m)(h:spD (Dm.fn n m body) vs H Q E) :
  tDS body { nx:=fun _ H'=>Q .non H',rt:=Q } (start N vs) H:=by
 have hvn:=ic h;obtain⟨H0,ds,z,s,rs,e,k⟩:=h;have hl:=rs.length;have no:∀a,¬ao (start N vs) (ds.map Dm.Cell.sh++Dk m .un) a:=fun a ⟨i,d,h1,_⟩=>by
  by_cases hi:i<ds.length
  ·rw[Tr (by simpa using hi),TM]at h1;cases q:ds[i]? with
   |none=>rw[q]at h1;cases h1
   |some y=>rw[q]at h1;cases h1
  ·rw[Tt (by simpa using hi),Ui]at h1;split at h1<;>cases h1
 have st:ay H0 H (start N vs) (ds.map Dm.Cell.sh++Dk m .un):=by
  refine⟨s,?_,fun i d h=>?_,fun i d h=>?_,fun i j d e a h1 h2 _ _=>?_⟩
  ·unfold L2.start;simp only[Tz,Dp,Vi]
   lia
  ·have hi:i<ds.length:=by
    by_cases hi:i<ds.length
    ·exact hi
    ·rw[Tt (by simpa using hi),Ui]at h;split at h<;>cases h
   rw[Tr (by simpa using hi),TM]at h;cases q:ds[i]? with
   |none=>rw[q]at h;cases h
   |some y=>rw[q]at h;cases h;obtain⟨v,hv,r⟩:=rs.get q;refine⟨v,?_,r⟩;unfold L2.start;rw[Tr (by simpa [hl] using hi),TM,hv];rfl
  ·by_cases hi:i<ds.length
   ·rw[Tr (by simpa using hi),TM]at h;cases q:ds[i]? with
    |none=>rw[q]at h;cases h
    |some y=>rw[q]at h;cases h
   ·rw[Tt (by simpa using hi),Ui]at h;split at h<;>cases h
  ·by_cases hi:i<ds.length
   ·rw[Tr (by simpa using hi),TM]at h1;cases q:ds[i]? with
    |none=>rw[q]at h1;cases h1
    |some y=>rw[q]at h1;cases h1
   ·rw[Tt (by simpa using hi),Ui]at h1;split at h1<;>cases h1
 have gr:∀{H0' H'},Stp (ao (start N vs) (ds.map Dm.Cell.sh++Dk m .un)) H0 H H0' H'->av H0' H'->aJ H0 H H0' H':=fun {H0' H'} t ss=>⟨t.s0,fun a o e=>t.s1 a o e (no a),fun a o e=>(t.s2 a o e).imp id fun q=>q.elim id fun z=>absurd z (no a),ss⟩
 unfold Dm.fn at e;rw[if_pos (by rw[<- hl];exact hvn)]at e;split at e
 ·rename_i r ρ' e1;cases e;refine⟨H0,_,_,st,e1,fun σ' v H0' H' t r _=>k v H0' H' (gr t.stp t.st.same) ?_⟩;cases z with
  |val d=>exact r
  |new d=>obtain⟨a,e,n,n0,w⟩:=r;exact⟨a,e,n.elim id fun z=>absurd z (no a),n0,w⟩
 ·rename_i ρ' e1;cases e;exact⟨H0,_,_,st,e1,fun σ' H0' H' t=>k _ H0' H' (gr t.stp t.st.same) .non⟩
 ·cases e
end
end
open PySem PySem.Spec PyProof.Rows L2
noncomputable def aZ(X:Cx)(nm:List Str)(scope:Scope)(own:List Str)(cl:List (Str×Addr))(C:Addr)(s:Shared)(H:Hp)(fp:List Addr):Cx where
 prog:=X.prog
 w:=X.w
 K:=X.K
 mg:=X.mg
 base:=X.base
 A:=X.A
 N:=nm++own
 s₀:=s
 H₀:=H
 env:=compEnvC scope cl C X.env
 outer:=X.stack
 stack:=X.stack
 ex:=fp
 fn:=fun _=>false
 calm:=X.calm
 pn:=[]
 xe:=fun _ _=>False
def PTs(X:Cx)(Qo:List Expr)(t:TT):Prop:=
 ∀(uV:List (Addr×Obj)) (s:Shared) (σ:L2.St) (H:Hp) (Q:Bool->Hp->Prop),Inv X uV σ H s->t σ H Q ->
  wpAny (model X.prog X.w) X.A (forIn Qo true fun c r=>if r=true then do let ok <- isTrue c X.env (eval c X.env);pure (UK ok) else pure (UK r)) (TP X uV σ Q) X.xe s
def Gf:TT:=fun _ H Q=>Q true H
theorem yE{X:Cx}:PTs X [] Gf:=fun uV s σ H Q I h=>wpAny_tests_nil ⟨H,I,h⟩
theorem Gg{X:Cx}{c:Expr}{t:TT}(h:PT X c t):PTs X [c] t:=fun uV s σ H Q I hq=>wpAny_tests_one (h uV s σ H Q I hq)
theorem dX(env:Env):∀(names:List (Str×NameKind)) (cs:List (Str×Addr)),(∀y∈names,y.2=.free->∃c,env.cells.lookup y.1=some c) ->
  ∃cl,(forIn names cs fun(x:Str×NameKind) (r:List (Str×Addr))=>(if (x.2 == NameKind.free)=true then do let c <- cellOf env x.1;pure (UK ((x.1,c)::r)) else pure (UK r):Sem (ForInStep (List (Str×Addr)))))=pure cl /\
   (∀x c,cl.lookup x=some c->env.cells.lookup x=some c\/cs.lookup x=some c)/\(∀y∈names,y.2=.free->∃c,cl.lookup y.1=some c)/\(∀x c,cs.lookup x=some c->∃c',cl.lookup x=some c')
 |[],cs,_=>⟨cs,rfl,fun _ _ h=>.inr h,fun _ h=>(nomatch h),fun _ c h=>⟨c,h⟩⟩
 |(n,k)::r,cs,h=>by
  have hr:∀y∈r,y.2=.free->∃c,env.cells.lookup y.1=some c:=fun y hy=>h y (Tq _ hy);by_cases hk:k=.free
  ·subst hk;obtain⟨c,hc⟩:=h (n,.free) To rfl;obtain⟨cl,e,h1,h2,h3⟩:=dX env r ((n,c)::cs) hr;refine⟨cl,?_,fun x c' q=>?_,fun y hy hf=>?_,fun x c' q=>?_⟩
   ·rw[WV];have e1:cellOf env n=pure c:=by unfold cellOf;rw[hc]
    simp only[beq_self_eq_true,if_true,e1,pure_bind];exact e
   ·rcases h1 x c' q with z | z
    ·exact .inl z
    ·rw[Up]at z;cases hx:x == n with
     |true=>
      rw[hx]at z;have:x=n:=by simpa using hx
      subst this;injection z with z
      subst z;exact .inl hc
     |false=>rw[hx]at z;exact .inr z
   ·rcases Tp.mp hy with rfl | hy
    ·exact h3 n c (by rw[Up,beq_self_eq_true])
    ·exact h2 y hy hf
   ·by_cases hx:x=n
    ·subst hx;exact h3 x c (by rw[Up,beq_self_eq_true])
    ·have hx':(x == n)=false:=by simpa using hx
     exact h3 x c' (by rw[Up,hx'];exact q)
  ·have hb:(k == NameKind.free)=false:=by simpa using hk
   obtain⟨cl,e,h1,h2,h3⟩:=dX env r cs hr;refine⟨cl,?_,h1,fun y hy hf=>?_,h3⟩
   ·rw[WV];simp only[hb,UN,if_false,pure_bind];exact e
   ·rcases Tp.mp hy with rfl | hy
    ·exact absurd hf hk
    ·exact h2 y hy hf
theorem mW{env:Env}{scope:Scope}(h:∀y∈scope.names,y.2=.free->∃c,env.cells.lookup y.1=some c) :
  ∃cl,closureFor scope env=pure cl/\(∀x c,cl.lookup x=some c->env.cells.lookup x=some c)/\∀y∈scope.names,y.2=.free->∃c,cl.lookup y.1=some c:=by
 obtain⟨cl,e,h1,h2,_⟩:=dX env scope.names [] h;refine⟨cl,?_,fun x c q=>(h1 x c q).elim id fun z=>by simp at z,h2⟩;unfold closureFor;have e':(forIn scope.names ([]:List (Str×Addr)) fun(x:Str×NameKind) (r:List (Str×Addr))=>(if (x.2 == NameKind.free)=true then do let c <- cellOf env x.1;pure (UK ((x.1,c)::r)) else pure (UK r):Sem (ForInStep (List (Str×Addr)))))=pure cl:=e
 first
  |(rw[show (forIn scope.names ([]:List (Str×Addr)) _:Sem (List (Str×Addr)))=pure cl from e'];rfl)
  |(simp only[e'];rfl)
theorem rT{prog:Program}{w:World}{A:Around}{R:Result->Shared->Prop}{s:Shared}{Qs target iter:Expr}{Qo:List Expr}{scope:Scope}{pos:Pos}{it DZ:Value}{env:Env}(I:Nat->Shared->Prop)
  (turn:∀ n s,I n s→wpAny (model prog w) A (pyNext it) (fun r s₁=>match r with
   |none=>R (.ok .next) s₁
   | some v=>wpAny (model prog w) A (letOwnedTupleGo target it v) (fun _ s₁'=>wpAny (model prog w) A (assign target env v) (fun _ s₂=>
     wpAny (model prog w) A (forIn Qo true fun c r=>if r=true then do let ok ← isTrue c env (eval c env);pure (UK ok) else pure (UK r)) (fun ok s₃=>
      if ok=true then wpAny (model prog w) A (eval Qs env) (fun x s₄=>wpAny (model prog w) A (call (.builtin "list.append") [DZ,x]) (fun _ s₅=>∃m,m<n/\I m s₅) (fun _ _=>False) s₄) (fun _ _=>False) s₃
      else ∃m,m<n/\I m s₃) (fun _ _=>False) s₂) (fun _ _=>False) s₁') (fun _ _=>False) s₁) (fun _ _=>False) s)
  (n:Nat) (h:I n s) :
  codeAny (model prog w) A (.compLoop (.ListComp Qs [⟨target,iter,Qo,0⟩] scope pos) 0 it DZ env) R s:=by
 have no:∀{P:Value->Shared->Prop} (x:Value) (s':Shared),False->P x s':=fun _ _ f=>f.elim;refine codeAny_loop rfl I (fun n s hI=>?_) n h;show wpAny _ A ((compTurn (.ListComp Qs [⟨target,iter,Qo,0⟩] scope pos) 0 it DZ env).onRaise (fun x=>do noteFrame x env;theTreesLotGoes x)) _ _ s;refine wpAny_noted ?_;rw[compTurn_list];refine wpAny_bind (wpAny_standAt (wpAny_bind (wpAny_mono (turn n s hI) (fun r s₁ h₁=>?_) no)));cases r with
 |none=>exact wpAny_pure h₁
 |some v=>
  refine wpAny_bind (wpAny_mono h₁ (fun _ s₁' h₁'=>?_) no);refine wpAny_bind (wpAny_mono h₁' (fun _ s₂ h₂=>wpAny_bind (wpAny_mono h₂ (fun ok s₃ h₃=>?_) no)) no);cases ok with
  |false=>exact wpAny_pure ⟨rfl,h₃⟩
  |true=>exact wpAny_bind (wpAny_bind (wpAny_mono h₃ (fun x s₄ h₄=>wpAny_bind (wpAny_mono h₄ (fun _ s₅ h₅=>wpAny_pure (wpAny_pure ⟨rfl,h₅⟩)) no)) no))
theorem cU(env:Env):∀(names:List (Str×NameKind)) (x:Str) (k:NameKind),
  (names.map fun(n,k)=>if (k == NameKind.free&&env.scope.kind == .function&&env.kindOf n == some .cell) then (n,W8) else (n,k)).lookup x=some k ->
  ∃k0,names.lookup x=some k0/\(k=k0\/(k0=.free/\k=.cell))
 |[],x,k,h=>by simp at h
 |(n,k1)::r,x,k,h=>by
  have h:List.lookup x ((if (k1 == NameKind.free&&env.scope.kind == .function&&env.kindOf n == some .cell)=true then (n,W8) else (n,k1))::r.map fun(n,k)=>if (k == NameKind.free&&env.scope.kind == .function&&env.kindOf n == some .cell) then (n,W8) else (n,k))=some k:=h;cases hx:x == n with
  |true=>
   by_cases hc:(k1 == NameKind.free&&env.scope.kind == .function&&env.kindOf n == some .cell)=true
   ·rw[if_pos hc,Up,hx]at h;injection h with h
    have hk:k1=.free:=by simp only[TN,beq_iff_eq]at hc;exact hc.1.1
    exact⟨k1,by rw[Up,hx],.inr ⟨hk,h.symm⟩⟩
   ·rw[if_neg hc,Up,hx]at h;injection h with h
    exact⟨k1,by rw[Up,hx],.inl h.symm⟩
  |false=>
   by_cases hc:(k1 == NameKind.free&&env.scope.kind == .function&&env.kindOf n == some .cell)=true
   ·rw[if_pos hc,Up,hx]at h;obtain⟨k0,e,z⟩:=cU env r x k h;exact⟨k0,by rw[Up,hx];exact e,z⟩
   ·rw[if_neg hc,Up,hx]at h;obtain⟨k0,e,z⟩:=cU env r x k h;exact⟨k0,by rw[Up,hx];exact e,z⟩
structure dg(X:Cx)(nm:List Str)(scope:Scope):Prop where
 kind:scope.kind=.function
 cell:∀y∈scope.names,y.2≠.cell
 names:∀y∈scope.names,y.2=.local->scope.names.lookup y.1=some .local
 free:∀y∈scope.names,y.2=.free->X.env.kindOf y.1=some .cell\/X.env.kindOf y.1=some .free
 apart:∀x∈nm,scope.names.lookup x≠some .local
 len:nm.length=X.N.length
 mask:∀(i:Nat) (x:Str),nm[i]?=some x->X.N[i]?=some x\/scope.names.lookup x=none
section
variable{X:Cx}{nm:List Str}{Qs tg iter:Expr}{Qo:List Expr}{scope:Scope}{pos:Pos}{own:List Str}{wi:TI}{g:TG}{tt:TT}{te:TE}
theorem qt{uV:List (Addr×Obj)}{s2:Shared}{σ:L2.St}{H2:Hp}{cl:List (Str×Addr)}{it:Addr}{fp:List Addr}{tn:Nat->Heap->Prop}{J:It}{Q:VK}{E:Value->Shared->Prop}{RR:Value->Addr->Result->Shared->Prop}
  (hc:X.calm=true) (S:dg X nm scope) (mX:∀x c,cl.lookup x=some c->X.env.cells.lookup x=some c) (As:∀y∈scope.names,y.2=.free->∃c,cl.lookup y.1=some c)
  (hg:∀cl C s H fp,PG (aZ X nm scope own cl C s H fp) tg g) (ht:∀cl C s H fp,PTs (aZ X nm scope own cl C s H fp) Qo tt) (he:∀cl C s H fp,PE (aZ X nm scope own cl C s H fp) Qs te)
  (I2:Inv X uV σ H2 s2) (T:Turn X.prog X.w X.K tg J fp it tn) (st2:tn 0 s2.heap) (f2:∀b∈fp,mG X uV H2 b)
  (hR:∀ D,H2 D=none→∃ W:Nat→Nat→L2.St→Hp→Prop,
   (∃m,W 0 m (σ++Dk own.length none) (upd H2 D (.lst [])))/\∀i m σ' H',W i m σ' H' ->
    (J.stop i H'∧Q (.ref D) H')∨(J.go i H'∧∀ x H2,J.yld i H' x H2→g x σ' H2 fun σ2 H3=>tt σ2 H3 fun b H4=>if b=true
     then te σ2 H4 fun y H5=>∃DZ,H5 D=some (.lst DZ)/\DZ.length<sizeLine/\∃m',m'<m/\W (i+1) m' σ2 (upd H5 D (.lst (DZ++[y])))
     else ∃m',m'<m/\W (i+1) m' σ2 H4))
  (RY:∀D C H6 s6,Inv X uV σ H6 s6->H6 C=none->C≠X.env.locals->X.s₀.heap.objs.size<=C->(∀x c,X.env.cells.lookup x=some c->c≠C)->(∀p∈X.pn++uV,p.1≠C)->(∃m,s6.heap.Ns C m)->Q (.ref D) H6->RR (.ref D) C (.ok .next) s6) :
  wpAny (model X.prog X.w) X.A (newList []) (fun DZ s₃=>wpAny (model X.prog X.w) X.A (newFunctionEnv scope X.env.globals cl [] X.env.qual none .none (some X.env)) (fun cenv s₄=>codeAny (model X.prog X.w) X.A (.compStart (.ListComp Qs [⟨tg,iter,Qo,0⟩] scope pos) 0 (.ref it) DZ { cenv with scope:=relabel scope X.env }) (RR DZ cenv.locals) s₄) E s₃) E s2:=by
 have no:∀{P:Value->Shared->Prop} (x:Value) (s':Shared),False->P x s':=fun _ _ f=>f.elim;refine wpAny_newObj_type (wpAny_newFunctionEnv S.cell (by intro y hy;simp at hy) (fun h₁ hns₁ hsb₁=>?_) S.kind);dsimp only at hns₁ hsb₁ ⊢;have I3:Inv X uV σ (upd H2 s2.heap.objs.size (.lst [])) { s2 with heap:=s2.heap.push { cls:=.type "list",dict:=none,data:=.seq ([]:List Value).toArray } }:=I2.Lc (t':=s2.toks) (ys:=[]) (its:=[]) .nil (T8 _)
 generalize hG2:s2.heap.push { cls:=.type "list",dict:=none,data:=.seq ([]:List Value).toArray }=G2 at hns₁ hsb₁ I3 ⊢
 have hC:G2.objs.size=s2.heap.objs.size+1:=by rw[<- hG2,VD]
 have up2:∀b o,s2.heap.get? b=some o->G2.get? b=some o:=fun b o e=>hG2▸gV _ e;have up3:∀b o,G2.get? b=some o->h₁.get? b=some o:=fun b o e=>hsb₁.extBut b o (Tu (Tn e)) (gV _ e);have RZ:G2.get? G2.objs.size=none:=V9 (Nat.le_refl _);have fpo:∀b∈fp,∃o,s2.heap.get? b=some o:=fun b hb=>by obtain⟨o,e,_⟩:=T.obj 0 _ st2 b hb;exact⟨o,e⟩
 have fpC:∀b∈fp,b≠G2.objs.size:=fun b hb=>by obtain⟨o,e⟩:=fpo b hb;exact Tu (Tn (up2 b o e))
 have H3C:(upd H2 s2.heap.objs.size (.lst [])) G2.objs.size=none:=I3.hok.fresh (Nat.le_refl _);have fpD:∀b∈fp,b≠s2.heap.objs.size:=fun b hb=>by obtain⟨o,e⟩:=fpo b hb;exact Tu (Tn e)
 have O3:∀b∈fp,b∉frs X.stack:=fun b hb z=>by
  rcases Tp.mp (I3.kr b z) with y | y
  ·exact(f2 b hb).2.1 y
  ·exact(f2 b hb).2.2.1 y
 have ok':(aZ X nm scope own cl G2.objs.size { s2 with heap:=G2 } (upd H2 s2.heap.objs.size (.lst [])) fp).Ok:=by
  refine ⟨I3.ok.mod,S.kind,I3.ok.glob,I3.ok.blt,Nat.le_refl _,fun x y c e1 e2=>I3.ok.inj x y c (mX x c e1) (mX y c e2),fun x hx=>?_,fun x c z=>(nomatch z),I3.ok.hd,I3.ok.frames,.inl rfl,
   fun b hb=>⟨fpC b hb,fun x c e=>(f2 b hb).2.2.2.2.1 x c (mX x c e)⟩,fun b o e=>I3.bs b o e,Nat.le_trans I3.ok.bsz I3.sz,fun b o e hb=>?_,fun b hb=>O3 b hb,I3.stack,I3.rq⟩
  ·have hx:(relabel scope X.env).names.lookup x=some .cell\/(relabel scope X.env).names.lookup x=some .free:=hx;have key:∀k,(relabel scope X.env).names.lookup x=some k->k≠.local->k=.cell\/k=.free->∃c,cl.lookup x=some c:=fun k hk _ hkk=>by
    obtain⟨k0,e0,z⟩:=cU X.env scope.names x k hk;have m0:=PySem.mem_of_lookup e0;have f0:k0=.free:=by
     rcases z with z | z
     ·subst z;rcases hkk with q | q
      ·exact absurd q (S.cell _ m0)
      ·exact q
     ·exact z.1
    exact As (x,k0) m0 f0
   rcases hx with hx | hx
   ·exact key _ hx (by decide) (.inl rfl)
   ·exact key _ hx (by decide) (.inr rfl)
  ·rcases (f2 b hb).2.2.2.1 with z | z
   ·exact I3.ok.Bk b o e z
   ·exact absurd (Tw (Tn e) (Nat.le_trans I3.ok.bsz z)) (Uu _)
 have stat:∀{H':Hp},(∀b∈fp,H' b=none)->∀b∈fp,mG (aZ X nm scope own cl G2.objs.size { s2 with heap:=G2 } (upd H2 s2.heap.objs.size (.lst [])) fp) [] H' b:=fun hn b hb=>⟨hn b hb,fpC b hb,O3 b hb,.inl hb,fun x c e=>(f2 b hb).2.2.2.2.1 x c (mX x c e),fun p hp=>(nomatch (show p∈([]:List (Addr×Obj)) from hp))⟩
 have I4:Inv (aZ X nm scope own cl G2.objs.size { s2 with heap:=G2 } (upd H2 s2.heap.objs.size (.lst [])) fp) [] (σ++Dk own.length none) (upd H2 s2.heap.objs.size (.lst [])) { s2 with heap:=h₁,toks:=s2.toks+([]:List (Str×Value)).length }:=by
  refine⟨ok',rfl,I3.bare,Un.kept up3,⟨_,hns₁,fun i x v e1 e2 e3=>?_⟩,fun x c e=>?_,H3C,fun x c e=>I3.cW x c (mX x c e),fun p hp=>(nomatch (show p∈([]:List (Addr×Obj)) from hp)),I3.hok.kept up3,?_⟩
  ·have e1:(nm++own)[i]?=some x:=e1;have hi:i<σ.length:=by
    by_cases hi:i<σ.length
    ·exact hi
    ·rw[Tt (VH.mp hi),Ui]at e2;split at e2<;>cases e2
   rw[Tr hi]at e2;rw[Tr (by rw[S.len,<- I3.len];exact hi)]at e1;have key:∀k,(relabel scope X.env).names.lookup x=some k->k=.local\/k=.cell\/k=.free->scope.names.lookup x=some .free/\(k=.cell\/k=.free):=fun k hk hkk=>by
    obtain⟨k0,e0,z⟩:=cU X.env scope.names x k hk;have m0:=PySem.mem_of_lookup e0;have n1:k0≠.local:=fun y=>S.apart x (Vo e1) (y▸e0);have n2:k0≠.cell:=S.cell _ m0;rcases z with z | z
    ·subst z;rcases hkk with q | q | q
     ·exact absurd q n1
     ·exact absurd q n2
     ·subst q;exact⟨e0,.inr rfl⟩
    ·obtain⟨z1,z2⟩:=z;subst z1;subst z2;exact⟨e0,.inl rfl⟩
   have hk:∃k,(relabel scope X.env).names.lookup x=some k/\(k=.cell\/k=.free)/\scope.names.lookup x=some .free:=by
    rcases (show (relabel scope X.env).names.lookup x=some .local\/(relabel scope X.env).names.lookup x=some .cell\/(relabel scope X.env).names.lookup x=some .free from e3) with q | q | q
    ·obtain⟨a,b⟩:=key _ q (.inl rfl);exact⟨_,q,b,a⟩
    ·obtain⟨a,b⟩:=key _ q (.inr (.inl rfl));exact⟨_,q,b,a⟩
    ·obtain⟨a,b⟩:=key _ q (.inr (.inr rfl));exact⟨_,q,b,a⟩
   obtain⟨k,hk1,hk2,hk3⟩:=hk;have m0:=PySem.mem_of_lookup hk3;obtain⟨c,hcc⟩:=As (x,.free) m0 rfl;obtain⟨m,hn,hl⟩:=I3.loc;have hout:=S.free (x,.free) m0 rfl;have R0:Vis X.env.scope x:=by
    rcases hout with q | q
    ·exact .inr (.inl q)
    ·exact .inr (.inr q)
   have e1':X.N[i]?=some x:=by
    rcases S.mask i x e1 with z | z
    ·exact z
    ·rw[z]at hk3;cases hk3
   obtain⟨u,ru,lk⟩:=hl i x v e1' e2 R0;refine⟨u,ru,.inr ⟨?_,c,hcc,?_⟩⟩
   ·rcases hk2 with q | q
    ·subst q;exact .inl hk1
    ·subst q;exact .inr hk1
   ·rcases lk with⟨q,_⟩ | ⟨_,c',e',z⟩
    ·rcases hout with y | y
     ·rw[q]at y;cases y
     ·rw[q]at y;cases y
    ·rw[mX x c hcc]at e';cases e';obtain⟨o,ho,hd⟩:=z;exact⟨o,up3 c o ho,hd⟩
  ·obtain⟨v,o,ho,hd⟩:=I3.cell x c (mX x c e);exact⟨v,o,up3 c o ho,hd⟩
  ·show (σ++Dk own.length none).length=(nm++own).length;rw[Tz,Tz,Vi,I3.len,S.len]
 obtain⟨W,⟨m0,w0⟩,turn⟩:=hR s2.heap.objs.size I2.fresh;have st4:tn 0 h₁:=T.keep 0 _ _ st2 fun b hb o e=>up3 b o (up2 b o e);have R3:∀b∈fp,(upd H2 s2.heap.objs.size (.lst [])) b=none:=fun b hb=>by rw[aj (fpD b hb)];exact(f2 b hb).1
 have Sz:∀s₃:Shared,s₃={ s2 with heap:=h₁,toks:=s2.toks+([]:List (Str×Value)).length } ->
   codeAny (model X.prog X.w) X.A (.compLoop (.ListComp Qs [⟨tg,iter,Qo,0⟩] scope pos) 0 (.ref it) (.ref s2.heap.objs.size) (compEnvC scope cl G2.objs.size X.env))
    (RR (.ref s2.heap.objs.size) G2.objs.size) s₃:=by
  rintro s₃ rfl;refine rT (fun n s'=>∃i σ' H',Inv (aZ X nm scope own cl G2.objs.size { s2 with heap:=G2 } (upd H2 s2.heap.objs.size (.lst [])) fp) [] σ' H' s'/\tn i s'.heap/\(∀b∈fp,H' b=none)/\W i n σ' H') ?_ m0
   ⟨0,_,_,I4,st4,R3,w0⟩
  rintro n s5 ⟨i,σ5,H5,I5,st5,fr5,w5⟩;rcases turn i n σ5 H5 w5 with⟨stop,q⟩ | ⟨go,step⟩
  ·refine wpAny_mono (T.done (aZ X nm scope own cl G2.objs.size { s2 with heap:=G2 } (upd H2 s2.heap.objs.size (.lst [])) fp) rfl rfl rfl hc i [] s5 σ5 H5 (fun _ _=>False) I5 (stat fr5) st5 stop) (fun r s6 hr6=>?_) no;obtain⟨hr,I6⟩:=hr6;subst hr;have I7:Inv X uV σ H5 s6:=I3.Ol (ch:=fp) I6.os I6.base I6.hok I6.bare fun b hb=>⟨(f2 b hb).2.2.2.1,(f2 b hb).2.1,(f2 b hb).2.2.2.2.1,(f2 b hb).2.2.2.2.2⟩;refine RY _ _ H5 s6 I7 I6.free (UM (show X.env.locals<G2.objs.size from I3.lt)) I3.sz (fun x c e=>?_) (fun p hp=>?_) (let ⟨m,hn,_⟩:=I6.loc;⟨m,hn⟩) q
   ·obtain⟨v,z⟩:=I3.cell x c e;exact Tu z.lt
   ·exact Tu (Tn (I3.pin p hp).1)
  ·refine wpAny_mono (T.item (aZ X nm scope own cl G2.objs.size { s2 with heap:=G2 } (upd H2 s2.heap.objs.size (.lst [])) fp) rfl rfl rfl hc i [] s5 σ5 H5 (fun _ _=>False) I5 (stat fr5) st5 go) (fun r s6 hr6=>?_) no;obtain⟨u,hr,h6⟩:=hr6;subst hr;refine wpAny_mono h6 (fun _ s7 h7=>?_) no;obtain⟨x,H7,I7,r7,y7,st7,fr7⟩:=h7;have I7':=I7.pinned (stat fr7) (T.obj _ _ st7);have again:∀{s9:Shared} {σ9:L2.St} {H9:Hp} {m':Nat},m'<n->Inv (aZ X nm scope own cl G2.objs.size { s2 with heap:=G2 } (upd H2 s2.heap.objs.size (.lst [])) fp) ([]++mH fp s7.heap) σ9 H9 s9->W (i+1) m' σ9 H9 ->
     ∃m,m<n/\∃i σ' H',Inv (aZ X nm scope own cl G2.objs.size { s2 with heap:=G2 } (upd H2 s2.heap.objs.size (.lst [])) fp) [] σ' H' s9/\tn i s9.heap/\(∀b∈fp,H' b=none)/\W i m σ' H':=fun {s9 σ9 H9 m'} hm I9 w9=>by
    refine⟨m',hm,i+1,σ9,H9,I9.jD,T.keep _ _ _ st7 fun b hb o e=>(I9.pin (b,o) (TY _ (TY _ (eX hb e)))).1,fun b hb=>?_,w9⟩;obtain⟨o,e,d⟩:=T.obj _ _ st7 b hb;exact(I9.pin (b,o) (TY _ (TY _ (eX hb e)))).2.1
   refine wpAny_mono (hg cl G2.objs.size _ _ fp _ s7 σ5 H7 x u _ I7' r7 (step x H7 y7)) (fun _ s8 h8=>?_) no;obtain⟨σ8,H8,I8,q8⟩:=h8;refine wpAny_mono (ht cl G2.objs.size _ _ fp _ s8 σ8 H8 _ I8 q8) (fun b s9 h9=>?_) no;obtain⟨H9,I9,q9⟩:=h9;cases b with
   |false=>rw[if_neg Ua]at q9 ⊢;obtain⟨m',hm,w9⟩:=q9;exact again hm I9 w9
   |true=>rw[if_pos rfl]at q9 ⊢;refine wpAny_mono (he cl G2.objs.size _ _ fp _ s9 σ8 H9 _ I9 q9) (fun y s10 h10=>?_) no;obtain⟨yv,H10,I10,r10,DZ,hacc,xM,m',hm,w10⟩:=h10;refine wpAny_mono (kB (X:=aZ X nm scope own cl G2.objs.size { s2 with heap:=G2 } (upd H2 s2.heap.objs.size (.lst [])) fp) _ s10 σ8 H10 (.ref s2.heap.objs.size) [yv] (.ref s2.heap.objs.size) [y] (fun _ H'=>H'=upd H10 s2.heap.objs.size (.lst (DZ++[yv]))) I10 rfl (.cons r10 .nil) ⟨_,DZ,yv,rfl,rfl,hacc,xM,rfl⟩) (fun _ s11 h11=>?_) no;obtain⟨_,H11,I11,_,e11⟩:=h11;subst e11;exact again hm I11 w10
 exact codeAny_compStart_list (Sz _ rfl) (T.self _ 0 _ _ _ st4 (Sz _ rfl))
theorem yF(hc:X.calm=true)(S:dg X nm scope)(hi:PI X tg iter wi)
  (hg:∀cl C s H fp,PG (aZ X nm scope own cl C s H fp) tg g) (ht:∀cl C s H fp,PTs (aZ X nm scope own cl C s H fp) Qo tt) (he:∀cl C s H fp,PE (aZ X nm scope own cl C s H fp) Qs te)
  (hs:∀x,foldedSetIterable iter X.env x=pure x:=by intro _;rfl):PE X (.ListComp Qs [⟨tg,iter,Qo,0⟩] scope pos) (tLC wi own.length g tt te):=by
 intro uV s σ H Q I h;obtain⟨cl,hclos,mX,As⟩:=mW (env:=X.env) (scope:=scope) fun y hy hf=>I.ok.has y.1 (S.free y hy hf);rw[eval_ListComp];refine wpAny_comprehension_free (use:=none) rfl hs hclos S.kind S.names (thn (hi uV s σ H _ I h) fun v s1 h1=>thn h1 fun itv s2 h2=>?_);obtain⟨it,fp,tn,J,H2,e,I2,T,st2,f2,hR⟩:=h2;subst e;refine qt (Q:=Q) (RR:=fun DZ C=>compPost (model X.prog X.w) X.A X.xe none (EP X uV σ Q) DZ C) hc S mX As hg ht he I2 T st2 f2 hR ?_;intro D C H6 s6 I6 hCn hCL hCs hCc hCp hns q;obtain⟨m,hn⟩:=hns;refine⟨m,hn,fun h' hs'=>⟨.ref D,H6,I6.turned (t':=s6.toks) (fun b o hb e=>(hs'.2 b hb).trans e) hCn hCL (.inr hCs) hCc hCp,rfl,q⟩⟩
theorem fS{i:Nat}{y:Str}{py Sl:Pos}(hN:X.N.Nodup)(hi':X.N[i]?=some y)(hy:Loc X.env.scope y)(hc:X.calm=true)(S:dg X nm scope)(hi:PI X tg iter wi)
  (hg:∀cl C s H fp,PG (aZ X nm scope own cl C s H fp) tg g) (ht:∀cl C s H fp,PTs (aZ X nm scope own cl C s H fp) Qo tt) (he:∀cl C s H fp,PE (aZ X nm scope own cl C s H fp) Qs te)
  (hsw:swapsWith (.ListComp Qs [⟨tg,iter,Qo,0⟩] scope pos) (some (.Name y py)) Sl.line X.env=pure true:=by rfl)
  (hs:∀x,foldedSetIterable iter X.env x=pure x:=by intro _;rfl) (hf:X.fn y=true\/X.env.scope.names.lookup y=some .local:=by trivial) :
  PS X (.Assign [.Name y py] (.ListComp Qs [⟨tg,iter,Qo,0⟩] scope pos) Sl) (wI (tLC wi own.length g tt te) (jB i)):=by
 intro uV s σ H Dn I h;obtain⟨cl,hclos,mX,As⟩:=mW (env:=X.env) (scope:=scope) fun y hy hf=>I.ok.has y.1 (S.free y hy hf);rw[exec_Assign_Name_used _ _ _ _ hsw];refine wpAny_bind (wpAny_standAt (wpAny_bind ?_));show wpAny _ X.A (do let _ <- comprehension (.ListComp Qs [⟨tg,iter,Qo,0⟩] scope pos) scope X.env _ (newList []) false (eval iter X.env) (some (assign (.Name y py) X.env))) _ _ s;refine wpAny_bind (wpAny_mono (wpAny_comprehension_free (use:=some (assign (.Name y py) X.env)) (Q:=fun _ s'=>SP X uV Dn .next s') rfl hs hclos S.kind S.names
  (thn (hi uV s σ H _ I h) fun v s1 h1=>thn h1 fun itv s2 h2=>?_)) (fun _ s' hq=>wpAny_pure (wpAny_pure hq)) fun _ _ e=>e)
 obtain⟨it,fp,tn,J,H2,e,I2,T,st2,f2,hR⟩:=h2;subst e;refine qt (Q:=fun x H1=>jB i x σ H1 Dn.nx) (RR:=fun DZ C=>compPost (model X.prog X.w) X.A X.xe (some (assign (.Name y py) X.env)) (fun _ s'=>SP X uV Dn .next s') DZ C) hc S mX As hg ht he I2 T st2 f2 hR ?_;intro D C H6 s6 I6 hCn hCL hCs hCc hCp hns q;obtain⟨m,hn⟩:=hns;show wpAny _ X.A (assign (.Name y py) X.env (.ref D)) _ _ _;refine wpAny_assign_Name (ku I6 hN hi' hy (v:=.ref D) rfl (fun s7 I7 h7=>?_) hf);obtain⟨a,sb,ha⟩:=h7;have hCa:C≠a:=by
  rcases ha with ha | ha
  ·rw[ha];exact hCL
  ·exact Ue (hCc y a ha)
 refine⟨m,hn.sameBut sb hCa,fun h' hs'=>⟨_,H6,I7.turned (t':=s7.toks) (fun b o hb e=>(hs'.2 b hb).trans e) hCn hCL (.inr hCs) hCc hCp,q⟩⟩
end
mutual
noncomputable def toPy:Dat->PyData
 |.non=>.none
 |.bl b=>.bool b
 |.int i=>.int i
 |.str s=>.str ⟨s.toArray⟩
 |.tup xs=>.tuple (b7 xs)
 |.lst xs=>.list (b7 xs)
 |.dct _ _=>.dict []
 |.exc _=>.dict []
 |.fn _=>.dict []
noncomputable def b7:List Dat->List PyData
 |[]=>[]
 |x::xs=>toPy x::b7 xs
end
mutual
theorem jO:∀a b:Dat,US (toPy a) (toPy b)=Dm.eqD a b
 |.non,b=>by cases b<;>simp[toPy,US,Dm.eqD]
 |.bl x,b=>by cases b<;>simp[toPy,US,Dm.eqD,Dm.b2i]
 |.int x,b=>by cases b<;>simp[toPy,US,Dm.eqD,Dm.b2i]
 |.str x,b=>by
  cases b with
  |str y=>
   simp only[toPy,US,Dm.eqD];rw[WW];simp only[beq_iff_eq];constructor
   ·intro h;have h:=congrArg (fun s:Str=>s.cps.toList) h
    simpa using h
   ·rintro rfl;rfl
  |_=>simp[toPy,US,Dm.eqD]
 |.tup xs,b=>by
  cases b with
  |tup ys=>simp only[toPy,US,Dm.eqD];exact kI xs ys
  |_=>simp[toPy,US,Dm.eqD]
 |.lst xs,b=>by
  cases b with
  |lst ys=>simp only[toPy,US,Dm.eqD];exact kI xs ys
  |_=>simp[toPy,US,Dm.eqD]
 |.dct ks vs,b=>by cases b<;>simp[toPy,US,Dm.eqD]
 |.exc C,b=>by cases b<;>simp[toPy,US,Dm.eqD]
 |.fn C,b=>by cases b<;>simp[toPy,US,Dm.eqD]
theorem kI:∀a b:List Dat,WC (b7 a) (b7 b)=Dm.lS a b
 |[],b=>by cases b<;>simp[b7,WC,Dm.lS]
 |x::xs,b=>by
  cases b with
  |nil=>simp[b7,WC,Dm.lS]
  |cons y ys=>simp only[b7,WC,Dm.lS];rw[jO x y,kI xs ys]
end
theorem B8{s:List Nat}(h:(s.all fun c=>decide (c<128))=true):PyData.strOk ⟨s.toArray⟩=true:=by unfold PyData.strOk;rw[Array.all_eq_true'];intro c hc;have h1:=UE.mp h c (by simpa using hc);have h2:c<128:=of_decide_eq_true h1;exact decide_eq_true (by lia)
theorem b8{P:Program}{w:World}{H:Hp}{h:Heap}(ok:HOk P w H h):∀(n:Nat),
  (∀(v:V) (d:Dat) (u:Value),Rep H v d->RelV v u->Dm.okD n d=true->∃as,Reads h u (toPy d) as/\(toPy d).canLay0=true/\(toPy d).depth<=n) /\
  (∀(vs:List V) (ds:List Dat) (us:List Value),aD H vs ds->Vals vs us->ds.all (Dm.okD n)=true->∃as,ReadsAll h us (b7 ds) as/\WI (b7 ds)=true/\Vj (b7 ds)<=n):=by
 intro n
 induction n with
 |zero=>
  have one:∀(v:V) (d:Dat) (u:Value),Rep H v d->RelV v u->Dm.okD 0 d=true->∃as,Reads h u (toPy d) as/\(toPy d).canLay0=true/\(toPy d).depth<=0:=by
   intro v d u r rv k;cases r with
   |non=>cases rv;exact⟨_,.none,rfl,Nat.le_refl _⟩
   |bl b=>cases rv;exact⟨_,.bool b,rfl,Nat.le_refl _⟩
   |int i=>obtain⟨t,rfl⟩:=rv;exact⟨_,.int i t,rfl,Nat.le_refl _⟩
   |str s=>obtain⟨t,rfl⟩:=rv;exact⟨_,.str _ t,B8 k,Nat.le_refl _⟩
   |tup _ _=>cases k
   |lst _ _=>cases k
   |dct _ _ _=>cases k
   |exc _=>cases k
   |fn _=>cases k
  refine⟨one,fun vs ds=>?_⟩
  induction ds generalizing vs with
  |nil=>intro us r rv _;cases r;cases rv;exact⟨_,.nil,rfl,Nat.le_refl _⟩
  |cons d ds ih=>
   intro us r rv k;cases r with
   |cons r rs=>
    cases rv with
    |cons q qs=>rw[WD,TN]at k;obtain⟨a1,h1,h2,h3⟩:=one _ _ _ r q k.1;obtain⟨a2,h4,h5,h6⟩:=ih _ _ rs qs k.2;exact⟨_,.cons h1 h4,by simp[b7,WI,h2,h5],by simp only[b7,Vj];lia⟩
 |succ n ih=>
  have one:∀(v:V) (d:Dat) (u:Value),Rep H v d->RelV v u->Dm.okD (n+1) d=true->∃as,Reads h u (toPy d) as/\(toPy d).canLay0=true/\(toPy d).depth<=n+1:=by
   intro v d u r rv k;cases r with
   |non=>cases rv;exact⟨_,.none,rfl,T8 _⟩
   |bl b=>cases rv;exact⟨_,.bool b,rfl,T8 _⟩
   |int i=>obtain⟨t,rfl⟩:=rv;exact⟨_,.int i t,rfl,T8 _⟩
   |str s=>obtain⟨t,rfl⟩:=rv;exact⟨_,.str _ t,B8 k,T8 _⟩
   |tup q rs=>cases rv;obtain⟨z,its,vr,ob,e,hc,m,hd⟩:=ok _ _ q;obtain⟨as,h1,h2,h3⟩:=ih.2 _ _ _ rs vr k;exact⟨_,.tuple e hc hd h1,h2,by simp only[toPy,PyData.depth];lia⟩
   |lst q rs=>cases rv;obtain⟨z,its,m,vr,e⟩:=q.ok ok;obtain⟨as,h1,h2,h3⟩:=ih.2 _ _ _ rs vr k;exact⟨_,.list e rfl rfl h1,h2,by simp only[toPy,PyData.depth];lia⟩
   |dct _ _ _=>cases k
   |exc _=>cases k
   |fn _=>cases k
  refine⟨one,fun vs ds=>?_⟩
  induction ds generalizing vs with
  |nil=>intro us r rv _;cases r;cases rv;exact⟨_,.nil,rfl,T8 _⟩
  |cons d ds ih=>
   intro us r rv k;cases r with
   |cons r rs=>
    cases rv with
    |cons q qs=>rw[WD,TN]at k;obtain⟨a1,h1,h2,h3⟩:=one _ _ _ r q k.1;obtain⟨a2,h4,h5,h6⟩:=ih _ _ rs qs k.2;exact⟨_,.cons h1 h4,by simp[b7,WI,h2,h5],by simp only[b7,Vj];lia⟩
theorem kG.full{H0 H:Hp}(s:av H0 H){v:V}{d:Dat}(r:kG H0 H v d):Rep H v d:=by
 rcases r with r | ⟨a,rfl,w⟩
 ·exact r.mono s
 ·cases d with
  |lst ds=>obtain⟨xs,q,rs⟩:=w;exact .lst (.inl q) (rs.mono s)
  |dct ks ds=>obtain⟨kvs,q,e,rs⟩:=w;exact .dct q e (rs.mono s)
  |_=>exact TF w
def Gh(neg:Bool):R2:=fun x y H Q=>∃dx dy,Rep H x dx/\Rep H y dy/\Dm.okD 8 dx=true/\Dm.okD 8 dy=true/\Q (.bl (if neg then !Dm.eqD dx dy else Dm.eqD dx dy)) H
section
variable{X:Cx}
section
variable{k:Nat}
theorem B9(hr:aT k X.A):OpR X (compareOp .Eq) (Gh false):=by intro uV s σ H x y v u Q I rx ry h;obtain⟨dx,dy,r1,r2,k1,k2,q⟩:=h;obtain⟨as,h1,h2,h3⟩:=(b8 I.hok 8).1 x dx v r1 rx k1;obtain⟨bs,h4,h5,h6⟩:=(b8 I.hok 8).1 y dy u r2 ry k2;have hu:=hr.units;refine PySem.SeqAt.compareEq_reads h1 h4 h2 h5 (by lia) ?_;rw[jO];exact⟨.bl (Dm.eqD dx dy),H,I,rfl,q⟩
theorem Lo(hr:aT k X.A):OpR X (compareOp .NotEq) (Gh true):=by intro uV s σ H x y v u Q I rx ry h;obtain⟨dx,dy,r1,r2,k1,k2,q⟩:=h;obtain⟨as,h1,h2,h3⟩:=(b8 I.hok 8).1 x dx v r1 rx k1;obtain⟨bs,h4,h5,h6⟩:=(b8 I.hok 8).1 y dy u r2 ry k2;have hu:=hr.units;refine PySem.SeqAt.compareNe_reads h1 h4 h2 h5 (by lia) ?_;rw[jO];exact⟨.bl (!Dm.eqD dx dy),H,I,rfl,q⟩
def Gi(neg:Bool):R2:=fun x y H Q=>∃dx ds,Rep H x dx/\(Rep H y (.lst ds)\/Rep H y (.tup ds))/\Dm.okD 8 dx=true/\ds.all (Dm.okD 7)=true/\Q (.bl (if neg then !Dm.inD dx ds else Dm.inD dx ds)) H
theorem fT(x:Dat):∀ds:List Dat,((b7 ds).any fun y=>US y (toPy x))=Dm.inD x ds
 |[]=>rfl
 |d::ds=>by have:=fT x ds;unfold Dm.inD at this ⊢;simp only[b7,Vw,jO];rw[this]
theorem Lp(hr:aT k X.A):OpR X (compareOp .In) (Gi false):=by
 intro uV s σ H x y v u Q I rx ry h;obtain⟨dx,ds,r1,r2,k1,k2,q⟩:=h;obtain⟨as,h1,h2,h3⟩:=(b8 I.hok 8).1 x dx v r1 rx k1;have hu:=hr.units;rcases r2 with r2 | r2
 ·obtain⟨bs,h4,h5,h6⟩:=(b8 I.hok 8).1 y (.lst ds) u r2 ry k2;have h6:Vj (b7 ds)+1<=8:=h6;refine PySem.SeqAt.in_list_reads h4 h1 h5 h2 (by lia) ?_;rw[fT];exact⟨.bl (Dm.inD dx ds),H,I,rfl,q⟩
 ·obtain⟨bs,h4,h5,h6⟩:=(b8 I.hok 8).1 y (.tup ds) u r2 ry k2;have h6:Vj (b7 ds)+1<=8:=h6;refine PySem.SeqAt.in_tuple_reads h4 h1 h5 h2 (by lia) ?_;rw[fT];exact⟨.bl (Dm.inD dx ds),H,I,rfl,q⟩
theorem qu(hr:aT k X.A):OpR X (compareOp .NotIn) (Gi true):=by
 intro uV s σ H x y v u Q I rx ry h;obtain⟨dx,ds,r1,r2,k1,k2,q⟩:=h;obtain⟨as,h1,h2,h3⟩:=(b8 I.hok 8).1 x dx v r1 rx k1;have hu:=hr.units;rcases r2 with r2 | r2
 ·obtain⟨bs,h4,h5,h6⟩:=(b8 I.hok 8).1 y (.lst ds) u r2 ry k2;have h6:Vj (b7 ds)+1<=8:=h6;refine PySem.SeqAt.notIn_list_reads h4 h1 h5 h2 (by lia) ?_;rw[fT];exact⟨.bl (!Dm.inD dx ds),H,I,rfl,q⟩
 ·obtain⟨bs,h4,h5,h6⟩:=(b8 I.hok 8).1 y (.tup ds) u r2 ry k2;have h6:Vj (b7 ds)+1<=8:=h6;refine PySem.SeqAt.notIn_tuple_reads h4 h1 h5 h2 (by lia) ?_;rw[fT];exact⟨.bl (!Dm.inD dx ds),H,I,rfl,q⟩
end
end
section
variable{H0 H:Hp}{ds:List Dat}{v:V}
theorem aC{i:Int}(r:kG H0 H v (.int i)):v=.int i:=by
 rcases r with r | ⟨a,_,w⟩
 ·exact Rep.isInt r
 ·exact TF w
theorem yG{b:Bool}(r:kG H0 H v (.bl b)):v=.bl b:=by
 rcases r with r | ⟨a,_,w⟩
 ·exact Rep.rO r
 ·exact TF w
theorem br(s:av H0 H)(r:kG H0 H v (.lst ds)):∃a xs,v=.ref a/\Rd H a (.lst xs)/\aD H0 xs ds:=by
 rcases r with r | ⟨a,e,xs,q,rs⟩
 ·cases r with
  |lst q rs=>exact⟨_,_,rfl,av.rd s q,rs⟩
 ·exact⟨a,xs,e,.inl q,rs⟩
theorem dI(s:av H0 H)(r:kG H0 H v (.tup ds)):∃a xs,v=.ref a/\H a=some (.tup xs)/\aD H0 xs ds:=by
 rcases r with r | ⟨a,_,w⟩
 ·cases r with
  |tup q rs=>exact⟨_,_,rfl,s _ _ q,rs⟩
 ·exact TF w
theorem Lq:OpD (rI0 fun i j=>.int (i-j)) Dm.jC:=by
 intro H0 H x y dx dy z Q s rx ry e k;unfold Dm.jC at e;split at e
 ·cases e;cases aC rx;cases aC ry;exact⟨_,_,rfl,rfl,k _ H0 H (aJ.refl s) (.int _)⟩
 ·cases e
theorem IV:OpD (rI0 fun i j=>.bl (decide (i<j))) Dm.gLt:=by
 intro H0 H x y dx dy z Q s rx ry e k;unfold Dm.gLt at e;split at e
 ·cases e;cases aC rx;cases aC ry;exact⟨_,_,rfl,rfl,k _ H0 H (aJ.refl s) (.bl _)⟩
 ·cases e
theorem yH:OpD (rI0 fun i j=>.bl (decide (i<=j))) Dm.gLe:=by
 intro H0 H x y dx dy z Q s rx ry e k;unfold Dm.gLe at e;split at e
 ·cases e;cases aC rx;cases aC ry;exact⟨_,_,rfl,rfl,k _ H0 H (aJ.refl s) (.bl _)⟩
 ·cases e
theorem IW:OpD (rI0 fun i j=>.bl (decide (j<i))) Dm.gGt:=by
 intro H0 H x y dx dy z Q s rx ry e k;unfold Dm.gGt at e;split at e
 ·cases e;cases aC rx;cases aC ry;exact⟨_,_,rfl,rfl,k _ H0 H (aJ.refl s) (.bl _)⟩
 ·cases e
theorem O4:OpD (rI0 fun i j=>.bl (decide (j<=i))) Dm.gGe:=by
 intro H0 H x y dx dy z Q s rx ry e k;unfold Dm.gGe at e;split at e
 ·cases e;cases aC rx;cases aC ry;exact⟨_,_,rfl,rfl,k _ H0 H (aJ.refl s) (.bl _)⟩
 ·cases e
theorem Lr:OpD (rI (fun _ j=>0<j) fun i j=>.int (i % j)) Dm.g7:=by
 intro H0 H x y dx dy z Q s rx ry e k;unfold Dm.g7 at e;split at e
 ·split at e
  ·rename_i hj;cases e;cases aC rx;cases aC ry;exact⟨_,_,rfl,rfl,hj,k _ H0 H (aJ.refl s) (.int _)⟩
  ·cases e
 ·cases e
theorem Ls:OpD (rI Oz fun i j=>.int (i ^ j.toNat)) Dm.g8:=by
 intro H0 H x y dx dy z Q s rx ry e k;unfold Dm.g8 at e;split at e
 ·split at e
  ·rename_i hj;cases e;cases aC rx;cases aC ry;exact⟨_,_,rfl,rfl,⟨hj.1,hj.2.1,Nat.lt_trans hj.2.2 (by decide)⟩,k _ H0 H (aJ.refl s) (.int _)⟩
  ·cases e
 ·cases e
end
section
variable{X:Cx}
def IX(i j:Int):Prop:=0<j/\j<Dm.jH
theorem B_:OpR X (binaryOp .FloorDiv) (rI IX fun i j=>.int (i / j)):=opI fun i j _ _ _ _ _ hc q=>by
 have h:j.natAbs.log2<9000:=by
  have h1:j.natAbs<2 ^ 200:=by
   have:=hc.2;unfold Dm.jH at this;have h2:=hc.1;have e:(2:Nat) ^ 200=1606938044258990275541962092341162602522202993782792835301376:=by decide +kernel
   omega
  have h3:j.natAbs≠0:=by have:=hc.1;omega
  have:=(Nat.log2_lt h3).mpr h1;omega
 have e:i.fdiv j=i / j:=Int.fdiv_eq_ediv_of_nonneg i (Int.le_of_lt hc.1);rw[<- e]at q;exact floordiv_int (Int.ne_of_gt hc.1) q (.inl (PyProof.noPylong_of_log2 h))
end
theorem Lu:OpD (rI IX fun i j=>.int (i / j)) Dm.Aj:=by
 intro H0 H x y dx dy z Q s rx ry e k;unfold Dm.Aj at e;split at e
 ·split at e
  ·rename_i hj;cases e;cases aC rx;cases aC ry;exact⟨_,_,rfl,rfl,hj,k _ H0 H (aJ.refl s) (.int _)⟩
  ·cases e
 ·cases e
theorem Lv:UnD (rU fun i=>.int (-i)) Dm.Ak:=by
 intro H0 H x dx z Q s rx e k;unfold Dm.Ak at e;split at e
 ·cases e;cases aC rx;exact⟨_,rfl,k _ H0 H (aJ.refl s) (.int _)⟩
 ·cases e
def Ca:R2:=fun x y H Q=>∃l b xs zs,x=.ref l/\y=.ref b/\Rd H l (.lst xs)/\Rd H b (.lst zs)/\xs.length+zs.length<=sizeLine/\∀p,H p=none->Q (.ref p) (upd H p (.lst (xs++zs)))
def Cb:R2:=fun x y H Q=>∃l k xs,x=.ref l/\y=.int k/\Rd H l (.lst xs)/\-(2 ^ 63)<=k/\k<2 ^ 63/\xs.length*k.toNat<=sizeLine /\
 ∀p,H p=none->Q (.ref p) (upd H p (.lst (Dk k.toNat xs).flatten))
section
variable{X:Cx}
theorem Gj:OpR X (binaryOp .Add) Ca:=by
 intro uV s σ H x y v u Q I rx ry h;obtain⟨l,b,xs,zs,rfl,rfl,hH,hB,hz,q⟩:=h;cases rx;cases ry;obtain⟨z,its,n,r,e⟩:=hH.ok I.hok;obtain⟨z2,its2,n2,r2,e2⟩:=hB.ok I.hok;have hl:=r.length;have hl2:=r2.length;refine PySem.P.add_list e e2 ?_ (by rw[Sx,Sx];lia);have ea:its.toArray++its2.toArray=(its++its2).toArray:=by simp
 rw[ea];exact⟨.ref _,_,I.Lc (t':=s.toks) (r.append r2) (by rw[Tz];lia),rfl,q _ I.fresh⟩
theorem Gk:OpR X (binaryOp .Mult) Cb:=by
 intro uV s σ H x y v u Q I rx ry h;obtain⟨l,k,xs,rfl,rfl,hH,h1,h2,hz,q⟩:=h;cases rx;obtain⟨t,rfl⟩:=ry;obtain⟨z,its,n,r,e⟩:=hH.ok I.hok;have hl:=r.length;have xM:its.toArray.size*k.toNat<=sizeLine:=by rw[Sx,<- hl];exact hz
 have hcap:¬its.toArray.size*k.toNat>(2 ^ 63-1) / 8:=by
  have:(sizeLine:Nat)<=(2 ^ 63-1) / 8:=by decide
  lia
 have hfit:¬(!Builtin.List.listFitsIndex k)=true:=by rw[fitsIndex_both h1 h2];exact Ua
 have O5:¬Vq (its.toArray.size*k.toNat)=true:=by rw[t8 xM];exact Ua
 have hnew:Xh (fun x1 x2=>x1++x2) #[] (Dk (if its.toArray.isEmpty=true then 0 else k.toNat) its.toArray)=(Dk k.toNat its).flatten.toArray:=by
  have f0:∀m:Nat,Xh (fun x1 x2=>x1++x2) #[] (Dk m its.toArray)=(Dk m its).flatten.toArray:=fun m=>by have:=foldl_rep its m [];rw[U4]at this;exact this
  rw[f0];cases its with
  |nil=>simp
  |cons a r'=>rw[if_neg (by simp)]
 refine wpAny_binaryOp_repeat_ref (T := "list") (U := "int") (by decide) ⟨_,e,rfl⟩ (fun s'=>typeIs_int s' k t) noFill_list_mul F.fills_int_mul F.slot_int_rmul repeat_list F.slot_int_index.lookup
  (call_meets F.slot_int_rmul (typeIs_int s k t) F.entry_int_rmul (F.args_int_rmul_2 _ _) (int___rmul___int_list k t l its.toArray n)
   ⟨e,rfl,⟨_,e,rfl⟩,call_meets F.slot_list_mul ⟨_,e,rfl⟩ F.entry_list_mul (F.args_list_mul_2 _ _) (AutoListH.list___mul___list_int_3 l its.toArray n k t hfit hcap O5) ⟨e,?_⟩⟩)
 rw[hnew];exact⟨.ref _,_,I.Lc (t':=s.toks) (r.rep k.toNat) (by rw[len_rep,Nat.mul_comm];exact hz),rfl,q _ I.fresh⟩
theorem Gm:OpR X (binaryOp .Add) (fun x y H Q=>rI0 (fun i j=>.int (i+j)) x y H Q\/Ca x y H Q):=KS.or Gj
theorem Gn:OpR X (binaryOp .Mult) (fun x y H Q=>rI BB (fun i j=>.int (i*j)) x y H Q\/Cb x y H Q):=KW.or Gk
end
theorem Lw:OpD (fun x y H Q=>rI0 (fun i j=>.int (i+j)) x y H Q\/Ca x y H Q) Dm.bS:=by
 intro H0 H x y dx dy z Q s rx ry e k;unfold Dm.bS at e;split at e
 ·cases e;cases aC rx;cases aC ry;exact .inl ⟨_,_,rfl,rfl,k _ H0 H (aJ.refl s) (.int _)⟩
 ·split at e
  ·rename_i hz;cases e;obtain⟨a,us,rfl,qa,ra⟩:=br s rx;obtain⟨b,ws,rfl,qb,rb⟩:=br s ry;refine .inr ⟨a,b,us,ws,rfl,rfl,qa,qb,by rw[ra.length,rb.length];exact jL hz,fun p hp=>?_⟩;exact k _ _ _ (aJ.jJ s hp) ⟨p,rfl,hp,s.free hp,_,ak,ra.append rb⟩
  ·cases e
 ·cases e
theorem Lx:OpD (fun x y H Q=>rI BB (fun i j=>.int (i*j)) x y H Q\/Cb x y H Q) Dm.g6:=by
 intro H0 H x y dx dy z Q s rx ry e k;unfold Dm.g6 at e;split at e
 ·split at e
  ·rename_i hj;cases e;cases aC rx;cases aC ry;exact .inl ⟨_,_,rfl,rfl,hj,k _ H0 H (aJ.refl s) (.int _)⟩
  ·cases e
 ·split at e
  ·rename_i hz;cases e;cases aC ry;obtain⟨a,us,rfl,qa,ra⟩:=br s rx;obtain⟨h1,h2,h3⟩:=hz;unfold Dm.BIG at h1 h2;refine .inr ⟨a,_,us,rfl,rfl,qa,by lia,by lia,by rw[ra.length];exact jL h3,fun p hp=>?_⟩;exact k _ _ _ (aJ.jJ s hp) ⟨p,rfl,hp,s.free hp,_,ak,ra.rep _⟩
  ·cases e
 ·cases e
theorem IY:OpD (Gh false) Dm.gEq:=by
 intro H0 H x y dx dy z Q s rx ry e k;unfold Dm.gEq at e;split at e
 ·rename_i hk;rw[TN]at hk;cases e;exact⟨dx,dy,rx.full s,ry.full s,hk.1,hk.2,k _ H0 H (aJ.refl s) (.bl _)⟩
 ·cases e
theorem O6:OpD (Gh true) Dm.gNe:=by
 intro H0 H x y dx dy z Q s rx ry e k;unfold Dm.gNe at e;split at e
 ·rename_i hk;rw[TN]at hk;cases e;exact⟨dx,dy,rx.full s,ry.full s,hk.1,hk.2,k _ H0 H (aJ.refl s) (.bl _)⟩
 ·cases e
theorem O7:OpD (Gi false) Dm.gIn:=by
 intro H0 H x y dx dy z Q s rx ry e k;unfold Dm.gIn at e;split at e
 ·split at e
  ·rename_i hk;rw[TN]at hk;cases e;exact⟨dx,_,rx.full s,.inl (ry.full s),hk.1,hk.2,k _ H0 H (aJ.refl s) (.bl _)⟩
  ·cases e
 ·split at e
  ·rename_i hk;rw[TN]at hk;cases e;exact⟨dx,_,rx.full s,.inr (ry.full s),hk.1,hk.2,k _ H0 H (aJ.refl s) (.bl _)⟩
  ·cases e
 ·cases e
theorem ug:OpD (Gi true) Dm.eZ:=by
 intro H0 H x y dx dy z Q s rx ry e k;unfold Dm.eZ at e;split at e
 ·split at e
  ·rename_i hk;rw[TN]at hk;cases e;exact⟨dx,_,rx.full s,.inl (ry.full s),hk.1,hk.2,k _ H0 H (aJ.refl s) (.bl _)⟩
  ·cases e
 ·split at e
  ·rename_i hk;rw[TN]at hk;cases e;exact⟨dx,_,rx.full s,.inr (ry.full s),hk.1,hk.2,k _ H0 H (aJ.refl s) (.bl _)⟩
  ·cases e
 ·cases e
theorem yI{H0:Hp}{xs:List V}{ds:List Dat}{i:Int}{d:Dat}(rs:aD H0 xs ds)(e:Dm.atI ds i=some d):∃v,L2.atI xs i=some v/\Rep H0 v d:=by
 unfold Dm.atI at e;cases q:Dm.ixN ds.length i with
 |none=>rw[q]at e;cases e
 |some j=>rw[q]at e;obtain⟨v,hv,r⟩:=rs.get (i:=j) e;refine⟨v,?_,r⟩;unfold L2.atI;rw[rs.length];have q':L2.ixN ds.length i=some j:=q;rw[q'];exact hv
theorem O8{K:eg}:OpD (fun x y H Q=>K8 K x y H Q\/OB K x y H Q) Dm.gIx:=by
 intro H0 H x y dx dy z Q s rx ry e k;unfold Dm.gIx at e;split at e
 ·rename_i ds i;cases q:Dm.atI ds i with
  |none=>rw[q]at e;cases e
  |some d=>rw[q]at e;cases e;cases aC ry;obtain⟨a,us,rfl,qa,ra⟩:=br s rx;obtain⟨v,hv,rv⟩:=yI ra q;exact .inl ⟨a,us,i,v,rfl,rfl,.inl qa,hv,k _ H0 H (aJ.refl s) rv⟩
 ·rename_i ds i;cases q:Dm.atI ds i with
  |none=>rw[q]at e;cases e
  |some d=>rw[q]at e;cases e;cases aC ry;obtain⟨a,us,rfl,qa,ra⟩:=dI s rx;obtain⟨v,hv,rv⟩:=yI ra q;exact .inr ⟨a,us,i,v,rfl,rfl,.inl (.inl qa),hv,k _ H0 H (aJ.refl s) rv⟩
 ·cases e
theorem Ly{K:eg}:CallD (fun xs H Q=>∃p ys,xs=[.ref p]/\(SqL K H p ys\/SqT K H p ys)/\Q (.int ys.length) H) Dm.cH:=by
 intro H0 H vs ds z Q s rs e k;unfold Dm.cH at e;split at e
 ·cases e;cases rs with
  |cons r rr=>cases rr;obtain⟨a,us,rfl,qa,ra⟩:=br s r;exact⟨a,us,rfl,.inl (.inl qa),k _ H0 H (aJ.refl s) (by rw[ra.length];exact .int _)⟩
 ·cases e;cases rs with
  |cons r rr=>cases rr;obtain⟨a,us,rfl,qa,ra⟩:=dI s r;exact⟨a,us,rfl,.inr (.inl (.inl qa)),k _ H0 H (aJ.refl s) (by rw[ra.length];exact .int _)⟩
 ·cases e
theorem Gp:CallD (fun xs H Q=>∃i j,xs=[.int i,.int j]/\Q (.int (if j<i then j else i)) H) Dm.mS:=by
 intro H0 H vs ds z Q s rs e k;unfold Dm.mS at e;split at e
 ·cases e;cases rs with
  |cons r rr=>
   cases rr with
   |cons r' rr=>cases rr;cases aC r;cases aC r';exact⟨_,_,rfl,k _ H0 H (aJ.refl s) (.int _)⟩
 ·cases e
theorem Gq:CallD (fun xs H Q=>∃i j,xs=[.int i,.int j]/\Q (.int (if j>i then j else i)) H) Dm.qp:=by
 intro H0 H vs ds z Q s rs e k;unfold Dm.qp at e;split at e
 ·cases e;cases rs with
  |cons r rr=>
   cases rr with
   |cons r' rr=>cases rr;cases aC r;cases aC r';exact⟨_,_,rfl,k _ H0 H (aJ.refl s) (.int _)⟩
 ·cases e
theorem Gr{K:eg}:CallD (fun xs H Q=>∃p ys,xs=[.ref p]/\(SqL K H p ys\/SqT K H p ys)/\∀l,H l=none->Q (.ref l) (upd H l (.lst ys))) Dm.ud:=by
 intro H0 H vs ds z Q s rs e k;unfold Dm.ud at e;split at e
 ·cases e;cases rs with
  |cons r rr=>cases rr;obtain⟨a,us,rfl,qa,ra⟩:=br s r;exact⟨a,us,rfl,.inl (.inl qa),fun p hp=>k _ _ _ (aJ.jJ s hp) ⟨p,rfl,hp,s.free hp,_,ak,ra⟩⟩
 ·cases e;cases rs with
  |cons r rr=>cases rr;obtain⟨a,us,rfl,qa,ra⟩:=dI s r;exact⟨a,us,rfl,.inr (.inl (.inl qa)),fun p hp=>k _ _ _ (aJ.jJ s hp) ⟨p,rfl,hp,s.free hp,_,ak,ra⟩⟩
 ·cases e
theorem Cc{K:eg}:CallD (fun xs H Q=>∃p ys,xs=[.ref p]/\((SqL K H p ys/\∀l,H l=none->Q (.ref l) (upd H l (.tup ys)))\/(SqT K H p ys/\Q (.ref p) H))) Dm.kF:=by
 intro H0 H vs ds z Q s rs e k;unfold Dm.kF at e;split at e
 ·cases e;cases rs with
  |cons r rr=>cases rr;obtain⟨a,us,rfl,qa,ra⟩:=br s r;refine⟨a,us,rfl,.inl ⟨.inl qa,fun p hp=>?_⟩⟩;have g:=aJ.Am (o:=HO.tup us) s hp;exact k _ _ _ g (.tup ak (ra.mono g.s0))
 ·cases e;cases rs with
  |cons r rr=>
   cases rr;rcases r with r | ⟨a,_,w⟩
   ·cases r with
    |tup q rs=>exact⟨_,_,rfl,.inr ⟨.inl (.inl (s _ _ q)),k _ H0 H (aJ.refl s) (.tup q rs)⟩⟩
   ·exact TF w
 ·cases e
noncomputable abbrev DS(X:Cx)(st:Stmt)(f:FS):Prop:=PS X st (tDS f)
noncomputable abbrev DSs(X:Cx)(st:List Stmt)(f:FS):Prop:=PSs X st (tDS f)
noncomputable abbrev DI(X:Cx)(tg it:Expr)(f:Dm.FI):Prop:=PI X tg it (tDI f)
theorem PI.weak{X:Cx}{tg it:Expr}{t t':TI}(h:PI X tg it t)(k:∀σ H R,t' σ H R->t σ H R):PI X tg it t':=fun uV s σ H R I q=>h uV s σ H R I (k σ H R q)
section
variable{X:Cx}{a b c e:Expr}{fa fb fc f:FE}{pos:Pos}
section
variable{g:Dat->Dat->Option RV}{k:Nat}{r:List V->Hp->VK->Prop}{Du:List Expr}{x:Str}{i:Int}
theorem d_v(i:Nat)(hN:X.N[i]?=some x:=by rfl)(hv:Vis X.env.scope x:=by trivial)(hd:(x == ("__debug__" : Str))=false:=by decide)
  (MZ:(x == ("__classdict__" : Str))=false:=by decide):DE X (.Name x pos) (Dm.eV i):=PE.weak (fN hN hv hd MZ) fun _ _ _=>OJ
theorem d_i{j}:DE X (.Constant (.int i) j pos) (Dm.eC (.int i)):=PE.weak Ku fun _ _ _=>jK fun _=>.int i
theorem d_b{v:Bool}{j}:DE X (.Constant (.bool v) j pos) (Dm.eC (.bl v)):=PE.weak Om fun _ _ _=>jK fun _=>.bl v
theorem d_n{j}:DE X (.Constant .none j pos) (Dm.eC .non):=PE.weak Kv fun _ _ _=>jK fun _=>.non
theorem d_s{s:List Nat}{j}(hx:x=⟨s.toArray⟩:=by rfl):DE X (.Constant (.str x) j pos) (Dm.eC (.str s)):=by subst hx;exact PE.weak Kw fun _ _ _=>jK fun _=>.str s
theorem d_g{t:Tok}(hg:Gl X x)(hm:X.mg x=some (.int i t))(hd:(x == ("__debug__" : Str))=false:=by decide):DE X (.Name x pos) (Dm.eC (.int i)):=
 PE.weak (rB (v:=.int i) hg hm ⟨t,rfl⟩ hd) fun _ _ _=>jK fun _=>.int i
theorem uh{op:Operator}{r:R2}(o:OpR X (binaryOp op) r)(od:OpD r g)(ha:DE X a fa)(hb:DE X b fb):DE X (.BinOp a op b pos) (Dm.e2 g fa fb):=
 PE.weak (Ov o ha hb) fun _ _ _=>wU od
theorem bE(ha:DE X a fa)(hb:DE X b fb):DE X (.BinOp a .Add b pos) (Dm.e2 Dm.bS fa fb):=uh Gm Lw ha hb
theorem mY(ha:DE X a fa)(hb:DE X b fb):DE X (.BinOp a .Sub b pos) (Dm.e2 Dm.jC fa fb):=uh KU Lq ha hb
theorem gM(ha:DE X a fa)(hb:DE X b fb):DE X (.BinOp a .Mult b pos) (Dm.e2 Dm.g6 fa fb):=uh Gn Lx ha hb
theorem O9(ha:DE X a fa)(hb:DE X b fb):DE X (.BinOp a .FloorDiv b pos) (Dm.e2 Dm.Aj fa fb):=uh B_ Lu ha hb
theorem gO(ha:DE X a fa)(hb:DE X b fb):DE X (.BinOp a .Mod b pos) (Dm.e2 Dm.g7 fa fb):=uh KY Lr ha hb
theorem jP(ha:DE X a fa)(hb:DE X b fb):DE X (.BinOp a .Pow b pos) (Dm.e2 Dm.g8 fa fb):=uh KZ Ls ha hb
theorem O_(ha:DE X a fa):DE X (.UnaryOp .USub a pos) (Dm.e1 Dm.Ak fa):=PE.weak (Ow K0 ha) fun _ _ _=>OL Lv
theorem qv{op:CmpOp}{r:R2}(o:OpR X (compareOp op) r)(od:OpD r g)(ha:DE X a fa)(hb:DE X b fb)(hm:behindInMarks op b=false):DE X (.Compare a [op] [b] pos) (Dm.e2 g fa fb):=
 PE.weak (FU o ha hb hm) fun _ _ _=>wU od
theorem lu{op:CmpOp}{r:R2}(o:OpR X (compareOp op) r)(od:OpD r g)(ha:DE X a fa)(hb:DE X b fb)(hm:behindInMarks op b=false):DT X (.Compare a [op] [b] pos) (Dm.tV (Dm.e2 g fa fb)):=
 PT.weak (FW o ha hb hm) fun σ H Q h=>wU od (rP h)
theorem Au(hr:aT k X.A)(ha:DE X a fa)(hb:DE X b fb):DE X (.Compare a [.Eq] [b] pos) (Dm.e2 Dm.gEq fa fb):=qv (B9 hr) IY ha hb (dG _)
theorem Pa(ha:DE X a fa)(hb:DE X b fb):DE X (.Compare a [.Lt] [b] pos) (Dm.e2 Dm.gLt fa fb):=qv IK IV ha hb (dG _)
theorem R4(ha:DE X a fa)(hb:DE X b fb):DE X (.Compare a [.LtE] [b] pos) (Dm.e2 Dm.gLe fa fb):=qv yq yH ha hb (dG _)
theorem Lz(ha:DE X a fa)(hb:DE X b fb):DE X (.Compare a [.Gt] [b] pos) (Dm.e2 Dm.gGt fa fb):=qv IL IW ha hb (dG _)
theorem Af(hr:aT k X.A)(ha:DE X a fa)(hb:DE X b fb)(hm:behindInMarks .In b=false:=by rfl):DE X (.Compare a [.In] [b] pos) (Dm.e2 Dm.gIn fa fb):=qv (Lp hr) O7 ha hb hm
theorem IZ(hr:aT k X.A)(ha:DE X a fa)(hb:DE X b fb)(hm:behindInMarks .NotIn b=false:=by rfl):DE X (.Compare a [.NotIn] [b] pos) (Dm.e2 Dm.eZ fa fb):=qv (qu hr) ug ha hb hm
theorem lT(hr:aT k X.A)(ha:DE X a fa)(hb:DE X b fb):DT X (.Compare a [.Eq] [b] pos) (Dm.tV (Dm.e2 Dm.gEq fa fb)):=lu (B9 hr) IY ha hb (dG _)
theorem mZ(hr:aT k X.A)(ha:DE X a fa)(hb:DE X b fb):DT X (.Compare a [.NotEq] [b] pos) (Dm.tV (Dm.e2 Dm.gNe fa fb)):=lu (Lo hr) O6 ha hb (dG _)
theorem Gs(ha:DE X a fa)(hb:DE X b fb):DT X (.Compare a [.Lt] [b] pos) (Dm.tV (Dm.e2 Dm.gLt fa fb)):=lu IK IV ha hb (dG _)
theorem R5(ha:DE X a fa)(hb:DE X b fb):DT X (.Compare a [.LtE] [b] pos) (Dm.tV (Dm.e2 Dm.gLe fa fb)):=lu yq yH ha hb (dG _)
theorem Gu(ha:DE X a fa)(hb:DE X b fb):DT X (.Compare a [.Gt] [b] pos) (Dm.tV (Dm.e2 Dm.gGt fa fb)):=lu IL IW ha hb (dG _)
theorem LA(ha:DE X a fa)(hb:DE X b fb):DT X (.Compare a [.GtE] [b] pos) (Dm.tV (Dm.e2 Dm.gGe fa fb)):=lu OA O4 ha hb (dG _)
theorem Pb(hr:aT k X.A)(ha:DE X a fa)(hb:DE X b fb)(hm:behindInMarks .NotIn b=false:=by rfl):DT X (.Compare a [.NotIn] [b] pos) (Dm.tV (Dm.e2 Dm.eZ fa fb)):=lu (qu hr) ug ha hb hm
theorem aL(ha:DE X a fa)(hb:DE X b fb)(hs:rG b:=by intro _ _;rfl):DE X (.Subscript a b pos) (Dm.e2 Dm.gIx fa fb):=PE.weak (IQ (yu.or K9) ha hb hs) fun _ _ _=>wU O8
theorem af:DA X [] []:=PA.weak eY fun _ _ _=>OM
theorem aa{es:List Expr}{fs:List FE}(h:DE X e f)(r:DA X es fs)(hs:starEach (e::es) X.env=(false,eval e X.env)::starEach es X.env:=by rfl):DA X (e::es) (f::fs):=PA.weak (cg h r hs) fun _ _ _=>Li
theorem aS{es:List Expr}{fs:List FE}{x1}(h:DA X es fs):DE X (.Tuple es x1 pos) (Dm.bg fs):=PE.weak (BG h) fun _ _ _=>ON
theorem aX{es:List Expr}{fs:List FE}(h:DA X es fs):DE X (.List es pos) (Dm.bA fs):=PE.weak (BH h) fun _ _ _=>OO
theorem wZ{es:List Expr}{fs:List FE}{g:List Dat->Option RV}{id:String}{p:Pos}(hc:cy X (.builtin id) r)(cd:CallD r g)(hv:bootBuiltins x=some (.builtin id))(hg:Gl X x)(hm:X.mg x=none)(ha:DA X (e::es) fs)
  (hn:x ≠ "__name__" := by decide) (MO:(x == ("__debug__" : Str))=false:=by decide) (he:starEach (e::es) X.env=(false,eval e X.env)::starEach es X.env:=by rfl) (Dy:(backTo pos (starEach es X.env)).any (·.1)=false:=by rfl) :
  DE X (.Call (.Name x p) (e::es) [] pos) (Dm.eB g fs):=PE.weak (eG hc hg hm hv ha hn MO he Dy) fun _ _ _=>Gb cd
theorem Gv{es:List Expr}{fs:List FE}{g:List Dat->Option RV}{T:String}{p:Pos}(hc:cy X (.type T) r)(cd:CallD r g)(hv:bootBuiltins x=some (.type T))(hg:Gl X x)(hm:X.mg x=none)(ha:DA X (e::es) fs)
  (hn:x ≠ "__name__" := by decide) (MO:(x == ("__debug__" : Str))=false:=by decide) (he:starEach (e::es) X.env=(false,eval e X.env)::starEach es X.env:=by rfl) (Dy:(backTo pos (starEach es X.env)).any (·.1)=false:=by rfl) :
  DE X (.Call (.Name x p) (e::es) [] pos) (Dm.eB g fs):=PE.weak (qk hc hg hm hv ha hn MO he Dy) fun _ _ _=>Gb cd
variable{es:List Expr}{fs:List FE}{p:Pos}
theorem cD(hg:Gl X "len")(hm:X.mg "len" = none)(ha:DA X [e] fs)(he:starEach [e] X.env=[(false,eval e X.env)]:=by rfl)(Dy:(backTo pos (starEach [] X.env)).any (·.1)=false:=by rfl):DE X (.Call (.Name "len" p) [e] [] pos) (Dm.eB Dm.cH fs):=wZ rJ Ly PySem.boot_len hg hm ha (he:=he) (Dy:=Dy)
theorem w_(hc:X.calm=true)(hg:Gl X "min")(hm:X.mg "min" = none)(ha:DA X [a,b] fs)(he:starEach [a,b] X.env=(false,eval a X.env)::starEach [b] X.env:=by rfl)(Dy:(backTo pos (starEach [b] X.env)).any (·.1)=false:=by rfl):DE X (.Call (.Name "min" p) [a,b] [] pos) (Dm.eB Dm.mS fs):=wZ (z7 hc) Gp (by rfl) hg hm ha (he:=he) (Dy:=Dy)
theorem Cd(hc:X.calm=true)(hg:Gl X "max")(hm:X.mg "max" = none)(ha:DA X [a,b] fs)(he:starEach [a,b] X.env=(false,eval a X.env)::starEach [b] X.env:=by rfl)(Dy:(backTo pos (starEach [b] X.env)).any (·.1)=false:=by rfl):DE X (.Call (.Name "max" p) [a,b] [] pos) (Dm.eB Dm.qp fs):=wZ (z6 hc) Gq (by rfl) hg hm ha (he:=he) (Dy:=Dy)
theorem LB(hg:Gl X "list")(hm:X.mg "list" = none)(ha:DA X [e] fs)(he:starEach [e] X.env=[(false,eval e X.env)]:=by rfl)(Dy:(backTo pos (starEach [] X.env)).any (·.1)=false:=by rfl):DE X (.Call (.Name "list" p) [e] [] pos) (Dm.eB Dm.ud fs):=Gv rK Gr (by rfl) hg hm ha (he:=he) (Dy:=Dy)
theorem yJ(hg:Gl X "tuple")(hm:X.mg "tuple" = none)(ha:DA X [e] fs)(he:starEach [e] X.env=[(false,eval e X.env)]:=by rfl)(Dy:(backTo pos (starEach [] X.env)).any (·.1)=false:=by rfl):DE X (.Call (.Name "tuple" p) [e] [] pos) (Dm.eB Dm.kF fs):=Gv pU Cc (by rfl) hg hm ha (he:=he) (Dy:=Dy)
theorem aE{F:Addr}{fd:FuncData}{ps:List Str}{g:List Dat->Option RV}(G:aK X.prog X.w X.K X.mg X.base CX0 k F fd ps (spD g))(hr:aT k X.A)(hg:Gl X x)(hm:X.mg x=some (.ref F))(hk:Ul X.K (.ref F)=true)(hb:Binds X.K fd ps [])
  (ha:DA X (e::es) fs) (MO:(x == ("__debug__" : Str))=false:=by decide) (he:starEach (e::es) X.env=(false,eval e X.env)::starEach es X.env:=by rfl) (Dy:(backTo pos (starEach es X.env)).any (·.1)=false:=by rfl) :
  DE X (.Call (.Name x p) (e::es) [] pos) (Dm.eF g fs):=PE.weak (gw G hr hg hm hk hb .nil (qm (X:=X)) ha MO he Dy) fun _ _ _=>wV
theorem R6{t:FT}{q:Expr}(hq:DT X q t)(ha:DE X a fa)(hb:DE X b fb):DE X (.IfExp q a b pos) (Dm.eIf t fa fb):=PE.weak (Bm hq ha hb) fun _ _ _=>RT
theorem fU{op}(h:DE X a fa):DE X (.BoolOp op [a] pos) fa:=KA h
theorem dJ(ha:DE X a fa)(hb:DE X (.BoolOp .And (b::Du) pos) fb):DE X (.BoolOp .And (a::b::Du) pos) (Dm.dO fa fb):=PE.weak (KC ha hb) fun _ _ _=>OP
theorem Pc(ha:DE X a fa):DE X (.UnaryOp .Not a pos) (Dm.Ai fa):=PE.weak (KD ha) fun _ _ _=>OQ
noncomputable abbrev DW(X:Cx)(e:Expr)(f:FT):Prop:=PW X e (tDT f)
theorem PW.weak{t t':TT}(h:PW X e t)(k:∀σ H Q,t' σ H Q->t σ H Q):PW X e t':=fun whole uV s σ H Q I q=>h whole uV s σ H Q I (k σ H Q q)
variable{ta tb:FT}
theorem LC(h:DT X a ta):DW X (.BoolOp .And [a] pos) ta:=pw_and1 h
theorem um(h:DT X a ta):DW X (.BoolOp .Or [a] pos) ta:=pw_or1 h
theorem w_and(ha:DT X a ta)(hb:DW X (.BoolOp .And (b::Du) pos) tb):DW X (.BoolOp .And (a::b::Du) pos) (Dm.wG ta tb):=PW.weak (pw_and ha hb) fun _ _ _=>Lk
theorem w_or(ha:DT X a ta)(hb:DW X (.BoolOp .Or (b::Du) pos) tb):DW X (.BoolOp .Or (a::b::Du) pos) (Dm.tOr ta tb):=PW.weak (pw_or ha hb) fun _ _ _=>OR
theorem t_w(h:DW X a ta):DT X a ta:=h.pt
theorem gP(h:DT X a ta):DT X (.UnaryOp .Not a pos) (Dm.eU ta):=PT.weak (Kz h) fun _ _ _=>Lj
theorem gQ(h:DE X e f)(he:∀whole,isTrue e X.env whole=(do let v <- whole;standAt e.pos;holding [v] (truthy v)):=by intro _;rfl):DT X e (Dm.tV f):=PT.weak (Ky h he) fun _ _ _=>rP
variable{tg:Expr}
theorem Av(hg:Gl X "range")(hm:X.mg "range" = none)(ha:DA X [a] [fa])(hs:starEach [a] X.env=[(false,eval a X.env)]:=by rfl):DI X tg (.Call (.Name "range" p) [a] [] pos) (Dm.iR1 fa):=
 PI.weak (zZ hg hm ha hs) fun _ _ _=>OY
theorem Gw(hg:Gl X "range")(hm:X.mg "range" = none)(ha:DA X [a,b] [fa,fb])(hs:starEach [a,b] X.env=[(false,eval a X.env),(false,eval b X.env)]:=by rfl)(hs2:starEach [b] X.env=[(false,eval b X.env)]:=by rfl):DI X tg (.Call (.Name "range" p) [a,b] [] pos) (Dm.iR2 fa fb):=
 PI.weak (z0 hg hm ha hs hs2) fun _ _ _=>OZ
end
end
section
variable{X:Cx}{st:Stmt}{Du:List Stmt}{fs gs:FS}{e a b c:Expr}{f fa fb:FE}{pos:Pos}
section
variable{is:List Nat}{es:List Expr}{body:List Stmt}{x:Str}{t:FT}
theorem bP:DSs X [] Dm.sNx:=PSs.weak ym fun _ _ _=>RU
theorem ai(h1:DS X st fs)(h2:DSs X Du gs):DSs X (st::Du) (Dm.aB fs gs):=PSs.weak (jz h1 h2) fun _ _ _=>OS
theorem aq(h1:DS X st fs):DSs X [st] fs:=yo h1
theorem s_a(i:Nat){x:Str}{pos':Pos}(hN:X.N.Nodup)(he:DE X e f)(hi:X.N[i]?=some x:=by rfl)(hx:Loc X.env.scope x:=by trivial)(hs:swapsWith e (some (.Name x pos')) pos.line X.env=pure false:=by rfl)
  (hf:X.fn x=true\/X.env.scope.names.lookup x=some .local:=by trivial):DS X (.Assign [.Name x pos'] e pos) (Dm.sA i f):=PS.weak (Bu hN hi hx he hs hf) fun _ _ _=>B4
theorem dY:PGs X [] (dW []):=FP
theorem aO(i:Nat){px:Pos}(hN:X.N.Nodup)(h2:PGs X es (dW is))(hi:X.N[i]?=some x:=by rfl)(hx:Loc X.env.scope x:=by trivial)
  (hf:X.fn x=true\/X.env.scope.names.lookup x=some .local:=by trivial) (hs:(assignEach (.Name x px::es) X.env).map (·.2)=assign (.Name x px) X.env::(assignEach es X.env).map (·.2):=by rfl):PGs X (.Name x px::es) (dW (i::is)):=Bs (rC hN hi hx hf) h2 hs
theorem s_u{k:Nat}{tpos:Pos}(hc:X.calm=true)(hg:PGs X es (dW is))(he:DE X e f)(hn:(assignEach es X.env).length=is.length:=by rfl)(hst:(assignEach es X.env).findIdx? (·.1)=none:=by rfl)
  (hs:swapsWithSole [.Tuple es k tpos] e pos.line X.env=pure false:=by rfl) (hw:swappedStores [.Tuple es k tpos] e X.env=pure none:=by rfl) (h1:(assignEach [.Tuple es k tpos] X.env).map (·.2)=[assign (.Tuple es k tpos) X.env]:=by rfl) :
  DS X (.Assign [.Tuple es k tpos] e pos) (Dm.sU is f):=PS.weak (Bt he (wH hc hg hn hst) hs hw h1) fun _ _ _=>B5 rfl
theorem s_e(he:DE X e f)(hs:swapsWith e none pos.line X.env=pure false:=by rfl):DS X (.Expr e pos) (Dm.sE f):=PS.weak (jA he hs) fun _ _ _=>Ll
theorem s_r(he:DE X e f):DS X (.Return (some e) pos) (Dm.sR f):=PS.weak (KG he) fun _ _ _=>OT
theorem cI{x y:List Stmt}(ht:DT X c t)(ha:DSs X x fs)(hb:DSs X y gs):DS X (.If c x y pos) (Dm.sIf t fs gs):=PS.weak (Bp ht ha hb) fun _ _ _=>OU
theorem yK:DS X st (fun _=>none):=PS.weak Bq fun _ _ _ ⟨_,_,_,_,z,_⟩=>by cases z
theorem uo(i:Nat){px ap cp:Pos}(he:DE X e f)(hi:X.N[i]?=some x:=by rfl)(hv:Vis X.env.scope x:=by trivial)(hd:(x == ("__debug__" : Str))=false:=by decide)
  (MZ:(x == ("__classdict__" : Str))=false:=by decide) (R1:attributeBase (.Name x px) "append" X.env (eval (.Name x px) X.env)=eval (.Name x px) X.env:=by rfl)
  (hfew:((backTo cp (starEach [e] X.env)).all (fun x=>!x.1)&&(backToKw cp (keywordEach [] X.env)).all (fun x=>x.1.isSome)
   && decide ([e].length+([]:List Keyword).length+(if ([]:List Keyword).isEmpty then 0 else 1)<30))=true:=by rfl)
  (QK:(ap.endLine == cp.line)=true:=by rfl) (hs:starEach [e] X.env=(false,eval e X.env)::starEach [] X.env:=by rfl) (JC:(backTo cp (starEach [] X.env)).any (·.1)=false:=by rfl)
  (hsw:swapsWith (.Call (.Attribute (.Name x px) "append" ap) [e] [] cp) none pos.line X.env=pure false:=by rfl) :
  DS X (.Expr (.Call (.Attribute (.Name x px) "append" ap) [e] [] cp) pos) (Dm.pV i f):=
 PS.weak (jA (yw Vu PySem.F.slot_list_append PySem.F.type_list_append kB (fN hi hv hd MZ) (aa he af hs) R1 hfew QK hs JC) hsw) fun _ _ _=>OV
theorem I0(i:Nat){j:Expr}{fj:FE}{px sp:Pos}(hj:DE X j fj)(he:DE X e f)(hi:X.N[i]?=some x:=by rfl)(hv:Vis X.env.scope x:=by trivial)(hd:(x == ("__debug__" : Str))=false:=by decide)
  (MZ:(x == ("__classdict__" : Str))=false:=by decide) (ha:∀ v,assign (.Subscript (.Name x px) j sp) X.env v=(do
   let ov <- holding [v] (eval (.Name x px) X.env)
   let iv <- holding [v,ov] (eval j X.env)
   standAt sp
   holding [v,ov,iv] (setItem ov iv v)
   release [v,ov,iv] []):=by intro _;rfl)
  (hs:swapsWithSole [.Subscript (.Name x px) j sp] e pos.line X.env=pure false:=by rfl) (hw:swappedStores [.Subscript (.Name x px) j sp] e X.env=pure none:=by rfl) (h1:(assignEach [.Subscript (.Name x px) j sp] X.env).map (·.2)=[assign (.Subscript (.Name x px) j sp) X.env]:=by rfl) :
  DS X (.Assign [.Subscript (.Name x px) j sp] e pos) (Dm.wQ i fj f):=PS.weak (Bt he (KP (fN hi hv hd MZ) hj set_list ha) hs hw h1) fun _ _ _=>OW
theorem Pd(n:Nat)(hp:PassesOwn (model X.prog X.w) X.A X.env X.xe)(ht:DT X c t)(hb:DSs X body fs):DS X (.While c body [] pos) (Dm.whD t fs n):=PS.weak (Bw hp ht hb) fun _ _ _=>Gd
structure TG'(X:Cx)(tg:Expr)(is:List Nat)(bd:Dm.FB):Prop where
 ex:∃g,PG X tg g/\BD is g bd
theorem g_n(i:Nat){px:Pos}(hN:X.N.Nodup)(hi:X.N[i]?=some x:=by rfl)(hx:Loc X.env.scope x:=by trivial)(hf:X.fn x=true\/X.env.scope.names.lookup x=some .local:=by trivial) :
  TG' X (.Name x px) [i] (Dm.bN i):=⟨⟨_,rC hN hi hx hf,yD i⟩⟩
theorem g_t{k:Nat}{tpos:Pos}(hc:X.calm=true)(hg:PGs X es (dW is))(hn:(assignEach es X.env).length=is.length:=by rfl)(hst:(assignEach es X.env).findIdx? (·.1)=none:=by rfl):TG' X (.Tuple es k tpos) is (Dm.bT is):=
 ⟨⟨_,wH hc hg hn hst,B6 is rfl⟩⟩
theorem cX{tg it:Expr}{fi:Dm.FI}{bd:Dm.FB}(hp:PassesOwn (model X.prog X.w) X.A X.env X.xe)(hc:X.calm=true)(hi:DI X tg it fi)(hg:TG' X tg is bd)(hb:DSs X body fs)
  (hs:∀x,foldedSetIterable it X.env x=pure x:=by intro _;rfl):DS X (.For tg it body [] pos) (Dm.dP fi bd fs):=by
 obtain⟨g,h1,h2⟩:=hg.ex;exact PS.weak (BA hp hc hi h1 hb hs) fun _ _ _=>OX h2
end
end
noncomputable def tyName:Dat->String
 |.non => "NoneType"
 |.bl _ => "bool"
 |.int _ => "int"
 |.str _ => "str"
 |.tup _ => "tuple"
 |.lst _ => "list"
 |.dct _ _ => "dict"
 |.exc _ => "dict"
 |.fn _ => "dict"
def Aw(T:String)(p:Dat->Bool):Prop:=∀(K:eg) (d:Dat),UR K (.type (tyName d)) (.type T)=some (p d)
theorem Gx:Aw "int" Dm.isI:=fun K d=>by cases d<;>rfl
theorem Ce:Aw "bool" Dm.isB:=fun K d=>by cases d<;>rfl
theorem Cf:Aw "list" Dm.isL:=fun K d=>by cases d<;>rfl
theorem kit_tuple:Aw "tuple" Dm.isT:=fun K d=>by cases d<;>rfl
theorem Cg{K:eg}{H:Hp}{v:V}{d:Dat}(r:Rep H v d)(nx:∀C,d≠.exc C/\d≠.fn C):jE K H v (.type (tyName d)):=by
 cases r with
 |non=>exact .non
 |bl b=>exact .bl b
 |int i=>exact .int i
 |str s=>exact .str _
 |tup q _=>exact .tup q
 |lst q _=>
  rcases q with q | ⟨o,q⟩
  ·exact .lst q
  ·exact .frz q
 |dct q _ _=>exact .dK q
 |exc _=>exact absurd rfl (nx _).1
 |fn _=>exact absurd rfl (nx _).2
def Pe(K:eg)(T:String):List V->Hp->VK->Prop:=fun xs H Q=>∃x t b,xs=[x,.ty T]/\jE K H x t/\UR K t (.type T)=some b/\Q (.bl b) H
section
variable{X:Cx}{e:Expr}{f:FE}{p p2 pos:Pos}
theorem Ci{T:String}:cy X (.builtin "isinstance") (Pe X.K T):=by intro uV s σ H xs us Q I r h;obtain⟨x,t,b,rfl,ty,e,q⟩:=h;obtain⟨u,u2,rfl,rx,ry⟩:=vals2 r;cases ry;exact Aa I rx ty e fun tk=>⟨.bl b,H,I.tok tk,rfl,q⟩
theorem Pf{K:eg}{T:String}{p:Dat->Bool}(kp:Aw T p){σ:L2.St}{H:Hp}{Q:VK}(h:tD (Dm.e1 (Dm.mR p) f) σ H Q):tCB (Pe K T) (gJ (tD f) (gJ (tC (.ty T)) rE)) σ H Q:=by
 obtain⟨H0,ρ,x,ρ',st,e,k⟩:=h;unfold Dm.e1 at e;split at e
 ·cases e
 rename_i x1 ρ1 e1;split at e
 ·cases e
 rename_i dx p1;have nx:∀C,dx≠.exc C/\dx≠.fn C:=fun C=>⟨fun z=>(by subst z;cases e),fun z=>(by subst z;cases e)⟩;have ev:Dm.mR p dx=Dm.vB (p dx):=by cases dx<;>first | rfl | exact absurd rfl (nx _).1 | exact absurd rfl (nx _).2
 rw[ev]at e;dsimp only at e;cases e;refine⟨H0,ρ,x1,_,st,e1,fun v H1 Hb t1 r1=>?_⟩;exact⟨v,_,_,rfl,Cg ((r1.look t1.st p1).full t1.st.same) nx,kp K dx,k _ H1 Hb t1 (Rep.bl _)⟩
theorem qw{T:String}{tn:Str}{p':Dat->Bool}(kp:Aw T p')(hvT:bootBuiltins tn=some (.type T))(hgT:Gl X tn)(hmT:X.mg tn=none)(hg:Gl X "isinstance")(hm:X.mg "isinstance" = none)(h:DE X e f)
  (hn:tn ≠ "__name__" := by decide) (MO:(tn == ("__debug__" : Str))=false:=by decide)
  (he:starEach [e,.Name tn p2] X.env=(false,eval e X.env)::starEach [.Name tn p2] X.env:=by rfl) (Dy:(backTo pos (starEach [.Name tn p2] X.env)).any (·.1)=false:=by rfl) (he2:starEach [.Name tn p2] X.env=(false,eval (.Name tn p2) X.env)::starEach [] X.env:=by rfl) :
  DE X (.Call (.Name "isinstance" p) [e,.Name tn p2] [] pos) (Dm.e1 (Dm.mR p') f):=
 PE.weak (eG Ci hg hm Vb (cg h (cg (yl (v:=.ty T) hgT hmT hvT rfl hn MO) eY he2) he) (he:=he) (Dy:=Dy)) fun _ _ _=>Pf kp
theorem all_range(bs:List Bool):(TV bs.length).all (fun i=>bs.getD i true)=bs.all id:=by
 rw[WW,UE,UE];constructor
 ·intro h b hb;obtain⟨i,hi,rfl⟩:=List.mem_iff_getElem.mp hb;have:=h i (VQ.mpr hi);rw[UG,Tv hi]at this;exact this
 ·intro h i hi;have hi:=VQ.mp hi;rw[UG,Tv hi];exact h _ (List.getElem_mem hi)
theorem Ax(hc:X.calm=true):cy X (.builtin "all") (fun xs H Q=>∃(a:Addr) (bs:List Bool),xs=[.ref a]/\Rd H a (.lst (bs.map V.bl))/\Q (.bl (bs.all id)) H):=by
 intro uV s σ H xs us Q I r h;obtain⟨a,bs,rfl,hq,q⟩:=h;obtain⟨u,rfl,rx⟩:=vals1 r;cases rx;obtain⟨z,its,n,rv,e⟩:=hq.ok I.hok;have hl:s.heap.IsList a its.toArray:=⟨_,e,rfl,_,rfl⟩
 have xM:=rv.length;rw[Dp]at xM;have hax:a≠s.heap.objs.size:=Tu (Tn e);refine PySem.call_all_walk (wpAny_pyIter_list hl ⟨s.heap.objs.size,_,_,_,_,_,fun i=>bs.getD i true,rfl,Walks.list (A:=X.A.in1) (I.ok.hd hc) s.heap.objs.size a hax its.toArray,⟨⟨_,TQ _ rfl,rfl,rfl⟩,hl.push _⟩,?_,fun h' tk hk=>?_⟩)
 ·intro i v s' Q' E' hv hQ';have hv':its[i]?=some v:=by simpa using hv
  have hi:i<bs.length:=by rw[xM];exact(Tj.mp hv').1
  have hb:(bs.map V.bl)[i]?=some (V.bl bs[i]):=by rw[TM,Tv hi];rfl
  obtain⟨u,hu,ru⟩:=rv.get hb;rw[hv']at hu;cases hu;cases ru;refine wpAny_truthy_bool ?_;have e2:bs.getD i true=bs[i]:=by rw[UG,Tv hi];rfl
  rw[<- e2];exact hQ'
 ·have e1:its.toArray.size=bs.length:=by rw[Sx,xM]
  rw[e1,all_range];refine⟨.bl _,H,I.kept (t':=tk) fun b o eb=>hk b o ?_ (gV _ eb),rfl,q⟩;intro hm;have:b=s.heap.objs.size:=by simpa using hm
  exact absurd (Tn eb) (by rw[this];exact Uu _)
end
section
variable{X:Cx}{a b c e:Expr}{f fa fb fc:FE}{p p2 pos:Pos}
section
variable{g h:Dat->Dat->Option RV}{σ:L2.St}{H:Hp}{Q:VK}
theorem Gy{r r':R2}(o1:OpD r g)(o2:OpD r' h)(hh:tD (Dm.g9 g h fa fb fc) σ H Q):BC r r' (tD fa) (tD fb) (tD fc) σ H Q:=by
 obtain⟨H0,ρ,x,ρ',st,e,k⟩:=hh;unfold Dm.g9 at e;split at e
 ·cases e
 rename_i x1 ρ1 e1;split at e
 ·cases e
 rename_i y1 ρ2 e2;split at e
 ·cases e
 rename_i dx p1;split at e
 ·cases e
 rename_i dy p2;refine⟨H0,ρ,x1,ρ1,st,e1,fun v H1 Hb t1 r1=>⟨H1,ρ1,y1,ρ2,t1.st,e2,fun u H2 Hc t2 r2=>?_⟩⟩;split at e
 ·rename_i gz;refine o1 H2 Hc v u dx dy _ _ t2.st.same ((r1.mono t2).look t2.st p1) (r2.look t2.st p2) gz fun w H3 Hd g3 r3=>?_;refine⟨true,Rep.rO r3,?_⟩;rw[if_pos rfl];have t3:=t2.trans (.grow t2.st g3);have r2':=r2.mono (.grow t2.st g3);split at e
  ·cases e
  rename_i z ρ3 e3;split at e
  ·cases e
  rename_i dy' p3;split at e
  ·cases e
  rename_i dz p4;split at e
  ·cases e
  rename_i w2 hz;cases e;refine⟨H3,ρ2,z,_,t3.st,e3,fun w' H4 He t4 r4=>?_⟩;refine o2 H4 He u w' dy' dz w2 Q t4.st.same ((r2'.mono t4).look t4.st p3) (r4.look t4.st p4) hz fun w5 H5 Hf g5 r5=>?_;exact k w5 H5 Hf (t1.trans (t3.trans (t4.trans (.grow t4.st g5)))) ((r5.toV t4.st).early fun a n=>(t1.trans (t3.trans t4)).stp.gone n)
 ·rename_i gz;cases e;refine o1 H2 Hc v u dx dy _ _ t2.st.same ((r1.mono t2).look t2.st p1) (r2.look t2.st p2) gz fun w H3 Hd g3 r3=>?_;refine⟨false,Rep.rO r3,?_⟩;rw[if_neg Ua];exact k _ H3 Hd (t1.trans (t2.trans (.grow t2.st g3))) (Rep.bl false)
 ·cases e
theorem Gz{op op':CmpOp}{r r':R2}(o1:OpR X (compareOp op) r)(q1:OpD r g)(o2:OpR X (compareOp op') r')(q2:OpD r' h)(ha:DE X a fa)(hb:DE X b fb)(hc:DE X c fc)
  (hm:lastMarks [op,op'] [b,c]=false:=by with_unfolding_all rfl):DE X (.Compare a [op,op'] [b,c] pos) (Dm.g9 g h fa fb fc):=PE.weak (BE o1 o2 ha hb hc hm) fun _ _ _=>Gy q1 q2
theorem Cj(n d:Nat)(o:Option Int)(hd:d<=n):HT.sIx n d o=Dm.sIx n d o:=by
 cases o with
 |none=>rfl
 |some v=>
  unfold HT.sIx Dm.sIx
  first
   |rfl
   |(dsimp only;split<;>lia)
theorem Ay{H0:Hp}{xs:List V}{ds:List Dat}(rs:aD H0 xs ds)(lo hi:Option Int):aD H0 (wM xs lo hi) (Dm.cut ds lo hi):=by unfold wM Dm.cut;rw[rs.length,Cj _ _ _ (T8 _),Cj _ _ _ (Nat.le_refl _)];exact(rs.drop _).take _
theorem yL{fo:Option FE}{H0 H:Hp}{ρ ρ':Dm.Env}{o:Option Int}{Q:Option Int->Hp->Prop}(st:ay H0 H σ ρ)(e:Dm.part fo ρ=some (o,ρ'))(k:∀H0' H',ESt σ ρ H0 H ρ' H0' H'->Q o H') :
  (match fo with | none=>rF | some f=>BI (tD f)) σ H Q:=by
 cases fo with
 |none=>cases e;exact k H0 H (.refl st)
 |some f=>
  unfold Dm.part at e;dsimp only at e;split at e
  ·rename_i i ρ1 e1;cases e;exact⟨H0,ρ,_,_,st,e1,fun v H1 Hb t1 r1=>⟨i,Rep.isInt r1,k H1 Hb t1⟩⟩
  ·cases e
noncomputable abbrev tOf(fo:Option FE):TO:=match fo with | none=>rF | some f=>BI (tD f)
theorem R7{K:eg}{lo hi:Option FE}(h:tD (Dm.eSl f lo hi) σ H Q):tSl (OC K) (tD f) (tOf lo) (tOf hi) σ H Q:=by
 obtain⟨H0,ρ,x,ρ',st,e,k⟩:=h;unfold Dm.eSl at e;split at e
 ·cases e
 rename_i x1 ρ1 e1;split at e
 ·cases e
 rename_i l ρ2 e2;split at e
 ·cases e
 rename_i hh ρ3 e3;split at e
 ·rename_i ds p1;cases e;refine⟨H0,ρ,x1,ρ1,st,e1,fun v H1 Hb t1 r1=>?_⟩;refine yL t1.st e2 fun H2 Hc t2=>?_;refine yL t2.st e3 fun H3 Hd t3=>?_;have tt:=t1.trans (t2.trans t3);obtain⟨a,xs,rfl,qa,ra⟩:=br t3.st.same ((r1.mono (t2.trans t3)).look t3.st p1);refine⟨a,xs,rfl,.inl qa,fun q hq=>?_⟩;have g:=aJ.jJ (o:=HO.lst (wM xs l hh)) t3.st.same hq;refine k _ _ _ (tt.trans (.grow t3.st g)) ⟨q,rfl,tt.stp.gone hq,t3.st.bZ hq,t3.st.same.free hq,_,ak,Ay ra l hh⟩
 ·cases e
theorem Pg{lo hi:Option Expr}{flo fhi:Option FE}(h:DE X e f)(hl:PO X lo (tOf flo))(hh:PO X hi (tOf fhi)):DE X (.Subscript e (.Slice lo hi none p2) pos) (Dm.eSl f flo fhi):=PE.weak (BJ F3 h hl hh) fun _ _ _=>R7
theorem o_n:PO X none (tOf none):=F1
theorem o_s(h:DE X e f):PO X (some e) (tOf (some f)):=F2 h
end
end
section
variable{X:Cx}{nm:List Str}{Qs tg iter:Expr}{Qo:List Expr}{scope:Scope}{pos:Pos}{own:List Str}{fi:Dm.FI}{bd:Dm.FB}{is:List Nat}{t:FT}{f:FE}
noncomputable abbrev DTs(X:Cx)(Qo:List Expr)(t:FT):Prop:=PTs X Qo (tDT t)
theorem bJ:DTs X [] Dm.bI:=fun uV s σ H Q I h=>by obtain⟨H0,ρ,b,ρ',st,e,k⟩:=h;cases e;exact yE uV s σ H Q I (k H0 H (.refl st))
theorem dZ{c:Expr}(h:DT X c t):DTs X [c] t:=Gg h
structure TGc(X:Cx)(nm:List Str)(scope:Scope)(own:List Str)(tg:Expr)(is:List Nat)(bd:Dm.FB):Prop where
 ex:∃g,(∀cl C s H fp,PG (aZ X nm scope own cl C s H fp) tg g)/\BD is g bd
theorem c_n(i:Nat){x:Str}{px:Pos}(hN:(nm++own).Nodup)(hi:(nm++own)[i]?=some x)(hx:(relabel scope X.env).names.lookup x=some .local):TGc X nm scope own (.Name x px) [i] (Dm.bN i):=
 ⟨⟨_,fun cl C s H fp=>rC (X:=aZ X nm scope own cl C s H fp) hN hi (.inl hx) (.inr hx),yD i⟩⟩
theorem c_t{es:List Expr}{k:Nat}{tpos:Pos}(hc:X.calm=true)(hg:∀cl C s H fp,PGs (aZ X nm scope own cl C s H fp) es (dW is))(hn:∀cl C,(assignEach es (compEnvC scope cl C X.env)).length=is.length:=by intro _ _;rfl)
  (hst:∀cl C,(assignEach es (compEnvC scope cl C X.env)).findIdx? (·.1)=none:=by intro _ _;rfl):TGc X nm scope own (.Tuple es k tpos) is (Dm.bT is):=
 ⟨⟨_,fun cl C s H fp=>wH (X:=aZ X nm scope own cl C s H fp) hc (hg cl C s H fp) (hn cl C) (hst cl C),B6 is rfl⟩⟩
theorem LD(hc:X.calm=true)(S:dg X nm scope)(hi:DI X tg iter fi)(hg:TGc X nm scope own tg is bd)(ht:∀cl C s H fp,DTs (aZ X nm scope own cl C s H fp) Qo t)(he:∀cl C s H fp,DE (aZ X nm scope own cl C s H fp) Qs f)
  (hl:∀i∈is,X.N.length<=i) (hs:∀x,foldedSetIterable iter X.env x=pure x:=by intro _;rfl):DE X (.ListComp Qs [⟨tg,iter,Qo,0⟩] scope pos) (Dm.bO fi own.length bd t f):=by
 obtain⟨g,h1,h2⟩:=hg.ex;intro uV s σ H Q I h;exact yF hc S hi h1 ht he hs uV s σ H Q I (wY h2 (fun i hi=>by rw[I.len];exact hl i hi) h)
theorem LF(j:Nat){y:Str}{py Sl:Pos}(hN:X.N.Nodup)(hc:X.calm=true)(S:dg X nm scope)(hi:DI X tg iter fi)(hg:TGc X nm scope own tg is bd)(ht:∀cl C s H fp,DTs (aZ X nm scope own cl C s H fp) Qo t)(he:∀cl C s H fp,DE (aZ X nm scope own cl C s H fp) Qs f)
  (hl:∀i∈is,X.N.length<=i) (hj:X.N[j]?=some y:=by rfl) (hy:Loc X.env.scope y:=by trivial)
  (hsw:swapsWith (.ListComp Qs [⟨tg,iter,Qo,0⟩] scope pos) (some (.Name y py)) Sl.line X.env=pure true:=by rfl) (hs:∀x,foldedSetIterable iter X.env x=pure x:=by intro _;rfl)
  (hf:X.fn y=true\/X.env.scope.names.lookup y=some .local:=by trivial):DS X (.Assign [.Name y py] (.ListComp Qs [⟨tg,iter,Qo,0⟩] scope pos) Sl) (Dm.sA j (Dm.bO fi own.length bd t f)):=by
 obtain⟨g,h1,h2⟩:=hg.ex;intro uV s σ H D I h;exact fS hN hj hy hc S hi h1 ht he hsw hs hf uV s σ H D I (wY h2 (fun i hi=>by rw[I.len];exact hl i hi) (B4 h))
end
theorem m5{H0:Hp}:∀{ds:List Dat} {bs:List Bool} {vs:List V},aD H0 vs ds->Dm.bools ds=some bs->vs=bs.map V.bl
 |[],bs,vs,r,e=>by cases r;cases e;rfl
 |.bl b::ds,bs,vs,r,e=>by
  cases r with
  |cons r rs=>
   unfold Dm.bools at e;cases q:Dm.bools ds with
   |none=>rw[q]at e;cases e
   |some cs=>rw[q]at e;cases e;cases Rep.rO r;rw[m5 rs q];rfl
 |.non::ds,bs,vs,r,e=>by cases e
 |.int _::ds,bs,vs,r,e=>by cases e
 |.str _::ds,bs,vs,r,e=>by cases e
 |.tup _::ds,bs,vs,r,e=>by cases e
 |.lst _::ds,bs,vs,r,e=>by cases e
 |.dct _ _::ds,bs,vs,r,e=>by cases e
theorem LG:CallD (fun xs H Q=>∃(a:Addr) (bs:List Bool),xs=[.ref a]/\Rd H a (.lst (bs.map V.bl))/\Q (.bl (bs.all id)) H) Dm.pW:=by
 intro H0 H vs ds z Q s rs e k;unfold Dm.pW at e;split at e
 ·split at e
  ·rename_i bs hb;cases e;cases rs with
   |cons r rr=>cases rr;obtain⟨a,us,rfl,qa,ra⟩:=br s r;have:=m5 ra hb;subst this;exact⟨a,bs,rfl,qa,k _ H0 H (aJ.refl s) (.bl _)⟩
  ·cases e
 ·cases e
theorem LH:CallD (fun xs H Q=>(∃i,xs=[.int i]/\Q (.int i) H)\/∃k,xs=[.bl k]/\Q (.int (if k then 1 else 0)) H) Dm.Al:=by
 intro H0 H vs ds z Q s rs e k;unfold Dm.Al at e;split at e
 ·cases e;cases rs with
  |cons r rr=>cases rr;cases aC r;exact .inl ⟨_,rfl,k _ H0 H (aJ.refl s) (.int _)⟩
 ·cases e;cases rs with
  |cons r rr=>cases rr;cases yG r;exact .inr ⟨_,rfl,k _ H0 H (aJ.refl s) (.int _)⟩
 ·cases e
section
variable{X:Cx}{a b c e:Expr}{f:FE}{fs:List FE}{p p2 pos:Pos}
theorem uq(hc:X.calm=true)(hg:Gl X "all")(hm:X.mg "all" = none)(ha:DA X [e] fs)(he:starEach [e] X.env=[(false,eval e X.env)]:=by rfl)(Dy:(backTo pos (starEach [] X.env)).any (·.1)=false:=by rfl) :
  DE X (.Call (.Name "all" p) [e] [] pos) (Dm.eB Dm.pW fs):=wZ (Ax hc) LG (by rfl) hg hm ha (he:=he) (Dy:=Dy)
theorem I_(hg:Gl X "int")(hm:X.mg "int" = none)(ha:DA X [e] fs)(he:starEach [e] X.env=[(false,eval e X.env)]:=by rfl)(Dy:(backTo pos (starEach [] X.env)).any (·.1)=false:=by rfl) :
  DE X (.Call (.Name "int" p) [e] [] pos) (Dm.eB Dm.Al fs):=Gv z8 LH (by rfl) hg hm ha (he:=he) (Dy:=Dy)
end
noncomputable def cQ(sc:Scope):List Str->List Str->Bool
 |[],[]=>true
 |x::N,y::nm=>(x == y||(sc.names.lookup y).isNone)&&cQ sc N nm
 |_,_=>false
theorem cQ.len{sc:Scope}:∀{N nm:List Str},cQ sc N nm=true->nm.length=N.length
 |[],[],_=>rfl
 |[],_::_,h=>by cases h
 |_::_,[],h=>by cases h
 |x::N,y::nm,h=>by rw[cQ,TN]at h;rw[Uy,Uy,cQ.len h.2]
theorem cQ.at{sc:Scope}:∀{N nm:List Str},cQ sc N nm=true->∀(i:Nat) (x:Str),nm[i]?=some x->N[i]?=some x\/sc.names.lookup x=none
 |[],[],_,i,x,e=>by simp at e
 |[],_::_,h,_,_,_=>by cases h
 |_::_,[],h,_,_,_=>by cases h
 |x::N,y::nm,h,0,z,e=>by
  rw[cQ,TN,WX]at h;simp at e;subst e;rcases h.1 with q | q
  ·have:x=y:=by simpa using q
   subst this;exact .inl rfl
  ·exact .inr (by simpa using q)
 |x::N,y::nm,h,i+1,z,e=>by rw[cQ,TN]at h;rw[Vv]at e ⊢;exact cQ.at h.2 i z e
noncomputable def m6(osc:Scope)(N nm:List Str)(sc:Scope):Bool:=
 sc.names.all (fun y=>y.2 != .cell)&&sc.names.all (fun y=>y.2 != .local||sc.names.lookup y.1 == some .local) &&
 sc.names.all (fun y=>y.2 != .free||(osc.names.lookup y.1 == some .cell||osc.names.lookup y.1 == some .free))&&nm.all (fun x=>sc.names.lookup x != some .local)&&cQ sc N nm
theorem dg.of{X:Cx}{nm:List Str}{scope:Scope}(h:m6 X.env.scope X.N nm scope=true)(hk:scope.kind=.function):dg X nm scope:=by
 unfold m6 at h;simp only[TN,UE]at h;obtain⟨⟨⟨⟨h1,h2⟩,h3⟩,h4⟩,h5⟩:=h;refine⟨hk,fun y hy=>?_,fun y hy hl=>?_,fun y hy hf=>?_,fun x hx=>?_,cQ.len h5,cQ.at h5⟩
 ·have:=h1 y hy;simpa using this
 ·have:=h2 y hy;rw[hl]at this
  simpa using this
 ·have:=h3 y hy;rw[hf]at this;have:(X.env.scope.names.lookup y.1 == some .cell||X.env.scope.names.lookup y.1 == some .free)=true:=by simpa using this
  rw[WX,beq_iff_eq,beq_iff_eq]at this;exact this
 ·have:=h4 x hx;simpa using this
section
variable{X:Cx}{Qs tg iter:Expr}{Qo:List Expr}{scope:Scope}{pos:Pos}{fi:Dm.FI}{bd:Dm.FB}{is:List Nat}{t:FT}{f:FE}
theorem ur{l:List Nat}{n:Nat}(h:(l.all fun i=>decide (n<=i))=true):∀i∈l,n<=i:=fun i hi=>of_decide_eq_true (UE.mp h i hi)
theorem Az(nm own:List Str)(hg:TGc X nm scope own tg is bd)(hi:DI X tg iter fi)(ht:∀cl C s H fp,DTs (aZ X nm scope own cl C s H fp) Qo t)(he:∀cl C s H fp,DE (aZ X nm scope own cl C s H fp) Qs f)
  (hc:X.calm=true:=by rfl) (hk:scope.kind=.function:=by rfl) (hS:m6 X.env.scope X.N nm scope=true:=by rfl) (hl:(is.all fun i=>decide (X.N.length<=i))=true:=by rfl) (hs:∀x,foldedSetIterable iter X.env x=pure x:=by intro _;rfl) :
  DE X (.ListComp Qs [⟨tg,iter,Qo,0⟩] scope pos) (Dm.bO fi own.length bd t f):=LD hc (dg.of hS hk) hi hg ht he (ur hl) hs
theorem LJ(j:Nat)(nm own:List Str){y:Str}{py Sl:Pos}(hN:X.N.Nodup)(hg:TGc X nm scope own tg is bd)(hi:DI X tg iter fi)(ht:∀cl C s H fp,DTs (aZ X nm scope own cl C s H fp) Qo t)(he:∀cl C s H fp,DE (aZ X nm scope own cl C s H fp) Qs f)
  (hc:X.calm=true:=by rfl) (hk:scope.kind=.function:=by rfl) (hS:m6 X.env.scope X.N nm scope=true:=by rfl) (hl:(is.all fun i=>decide (X.N.length<=i))=true:=by rfl) (hj:X.N[j]?=some y:=by rfl) (hy:Loc X.env.scope y:=by trivial)
  (hsw:swapsWith (.ListComp Qs [⟨tg,iter,Qo,0⟩] scope pos) (some (.Name y py)) Sl.line X.env=pure true:=by rfl) (hs:∀x,foldedSetIterable iter X.env x=pure x:=by intro _;rfl)
  (hf:X.fn y=true\/X.env.scope.names.lookup y=some .local:=by trivial):DS X (.Assign [.Name y py] (.ListComp Qs [⟨tg,iter,Qo,0⟩] scope pos) Sl) (Dm.sA j (Dm.bO fi own.length bd t f)):=
 LF j hN hc (dg.of hS hk) hi hg ht he (ur hl) hj hy hsw hs hf
end
section
variable{f:FE}{a:Addr}{X:Cx}{H:Hp}
theorem PI.or{tg it:Expr}{t t':TI}(h:PI X tg it t)(h':PI X tg it t'):PI X tg it (fun σ H R=>t σ H R\/t' σ H R):=fun uV s σ H R I q=>q.elim (h uV s σ H R I) (h' uV s σ H R I)
theorem Ph{K:eg}{σ:L2.St}{R:It->Hp->Prop}(h:tDI (Dm.iS f) σ H R):tR K (tD f) σ H R\/Bx K (tD f) σ H R:=by
 obtain⟨H0,ρ,ys,ρ',st,e,k⟩:=h;unfold Dm.iS at e;split at e
 ·cases e
 rename_i x ρ1 e1;split at e
 ·rename_i ds ρ2 e2;cases e;exact .inl (RW ⟨H0,ρ,_,_,st,by unfold Dm.iL;rw[e1];dsimp only;rw[e2],k⟩)
 ·rename_i ds ρ2 e2;cases e;exact .inr (RX ⟨H0,ρ,_,_,st,by unfold Dm.iT;rw[e1];dsimp only;rw[e2],k⟩)
 ·cases e
theorem i_S{tg e:Expr}(h:DE X e f):DI X tg e (Dm.iS f):=PI.weak (PI.or (yp h) (By h)) fun _ _ _=>Ph
noncomputable def Ck(K:eg):Bool:=K.all fun p=>match p.2.cls with | .type n=>n != "list" | _=>true
theorem lookup_mem{o:Obj}:∀{K:List (Addr×Obj)},K.lookup a=some o->(a,o)∈K
 |[],h=>by cases h
 |(b,x)::r,h=>by
  rw[Up]at h;cases q:a == b with
  |true=>
   rw[q]at h;cases h;have:a=b:=by simpa using q
   rw[this];exact To
  |false=>rw[q]at h;exact Tq _ (lookup_mem h)
theorem LK{f:List Dat->Option RV}{K:eg}{ns:List Int}{E:XK}(hf:f [.lst (ns.map Dat.int)]=some (.val (.bl true)))(hK:Ck K=true)(hS:SqL K H a (ns.map V.int)) :
  spD f [.ref a] H (fun v _=>v=.bl true) E:=by
 have hq:Rd H a (.lst (ns.map V.int)):=by
  rcases hS with h | ⟨o,its,n,hk,hc,_⟩
  ·exact h
  ·have:=UE.mp hK _ (lookup_mem hk);dsimp only at this;rw[hc]at this;exact absurd this (by decide)
 have hr:∀ns:List Int,aD H (ns.map V.int) (ns.map Dat.int):=fun ns=>by
  induction ns with
  |nil=>exact .nil
  |cons n ns ih=>exact .cons (.int n) ih
 exact⟨H,_,_,av.refl _,.cons (.lst hq (hr ns)) .nil,hf,fun v H0' H' _ r=>Rep.rO r⟩
end
end Br
namespace Dm
noncomputable def iRd(a b c:FE):FI:=fun ρ=>match a ρ with
 | some (.val (.int i),ρ1)=>(match b ρ1 with
  | some (.val (.int j),ρ2)=>(match c ρ2 with
   |some (.val (.int k),ρ3)=>if k=-1/\j<=BIG/\-BIG<=j/\i<=BIG/\-BIG<=i then some (downs i (i-j).toNat,ρ3) else none
   |_=>none)
  |_=>none)
 |_=>none
noncomputable def AA(a:FE):FI:=fun ρ=>match a ρ with
 |none=>none
 |some (x,ρ1)=>match tk ρ1 x with
  |some (.lst ds,ρ2)=>some (ds.reverse,ρ2)
  |_=>none
noncomputable def jQ:Nat->List Dat->List Dat
 |_,[]=>[]
 |i,d::ds=>.tup [.int (i:Nat),d]::jQ (i+1) ds
noncomputable def iEn(a:FE):FI:=fun ρ=>match a ρ with
 |none=>none
 |some (x,ρ1)=>match tk ρ1 x with
  |some (.lst ds,ρ2)=>some (jQ 0 ds,ρ2)
  |_=>none
noncomputable def m7(d:Dat):Option RV:=match d with
 |.lst ds=>some (.new (.lst ds.reverse))
 |_=>none
noncomputable def qx:List Dat->Option RV
 |[.int j]=>if j<=1000000/\-1000000<=j then some (.new (.lst (ups 0 j.toNat))) else none
 |_=>none
end Dm
namespace Br
open PySem PySem.Spec PyProof.Rows L2
theorem qy{X:Cx}{uV:List (Addr×Obj)}{σ:L2.St}{H:Hp}{s:Shared}{h':Heap}{t':Nat}{fp:List Addr}{p:Addr}{o:HO}(I:Inv X uV σ H s)(hf:∀b∈fp,mG X uV H b)
  (k:∀b u,b∉fp->s.heap.get? b=some u->h'.get? b=some u) (hp:s.heap.objs.size<=p) (new:aR X.prog X.w (upd H p o) h' p o):Inv X uV σ (upd H p o) { s with heap:=h',toks:=t' }:=by
 have hn:H p=none:=I.hok.fresh hp;have nf:∀b u,H b=some u->b∉fp:=fun b u e z=>by rw[(hf b z).1]at e;cases e
 have nL:X.env.locals∉fp:=fun z=>(hf _ z).2.1 rfl;refine I.step (g':=s.gens) (d':=s.drawn) (ch:=fp) (fun b hb=>?_) (fun b u _ _ hc e _=>k b u hc e) (fun b u _ _ hc e _=>⟨u.slots,k b u hc e⟩)
  (fun b u _ e n=>by rw[aj (Tu (Tw (Tn e) hp))];exact n) (fun b u hc e=>⟨u,k b u hc e⟩)
  (fun b xs q=>by rw[aj (az q hn)];exact q) (fun b u xs q=>by rw[aj (az q hn)];exact q) (fun b _ _ _ q=>by rw[aj (az q hn)];exact q) (fun m hm=>?_) (fun b u e=>?_) I.bare
 ·obtain⟨f0,f1,f2,f3,f4,f5⟩:=hf b hb;exact⟨f3,f1,f4,f5⟩
 ·obtain⟨o,es,ep,ho,r⟩:=hm;exact⟨o,es,ep,k _ o nL ho,r⟩
 ·by_cases hb:b=p
  ·subst hb;rw[ak]at e;cases e;exact new
  ·rw[aj hb]at e;refine(I.hok b u e).stay (fun c v hc q=>k c v ?_ q) (fun c q=>by rw[aj (az q hn)];exact q) (fun c _ _ q=>by rw[aj (az q hn)];exact q) fun c xs q=>by rw[aj (az q hn)];exact q
   rcases hc with z | z
   ·rw[z];exact nf b u e
   ·exact nf c _ z
noncomputable def Itv(K:eg)(a:Addr)(n:Nat):It:=
 ⟨fun i H=>∃xs x,SqL K H a xs/\xs.length=n/\xs.reverse[i]?=some x,fun i H x H'=>H'=H/\∀xs,SqL K H a xs->xs.reverse[i]?=some x,fun i H=>n<=i⟩
theorem Cm{P:Program}{w:World}{K:eg}{tg:Expr}(a it:Addr)(n:Nat):Turn P w K tg (Itv K a n) [it] it (fun i h=>i<=n/\h.IsRevIter it a ((n:Int)-1-(i:Nat))) where
 mem:=by simp
 obj:=fun i h st b hb=>by
  have e:b=it:=by simpa using hb
  subst e;obtain⟨_,o,e,c,d⟩:=st;exact⟨o,e,fun v z=>by rw[d]at z;cases z⟩
 keep:=fun i h h' st k=>⟨st.1,st.2.at fun o e=>k it (by simp) o e⟩
 item:=by
  intro X hP hw hK hc i uV s σ H E I hf st hg;subst hP hw hK;obtain⟨xs,x,hq,hl,hx⟩:=hg;obtain⟨its,rv,p,hz⟩:=I.list hq;have hi:i<n:=by have:=(Tj.mp hx).1;rw[UI,hl]at this;exact this
  rw[V8 (by lia),hl]at hx;obtain⟨u,hu,ru⟩:=rv.get hx;obtain⟨f0,f1,f2,f3,f4,f5⟩:=hf it (by simp);obtain⟨_,st⟩:=st;have ei:((n:Int)-1-(i:Nat))=((n-1-i:Nat):Int):=by lia
  rw[ei]at st;refine wpAny_pyNext_rev_item st p.isList (x:=u) (by simpa using hu) fun h' st' sb=>?_;have ej:((n-1-i:Nat):Int)-1=(n:Int)-1-((i+1:Nat):Int):=by lia
  rw[ej]at st';have I1:Inv X uV σ H { s with heap:=h' }:=I.turned (t':=s.toks) (fun b o hb e=>(sb.2 b hb).trans e) f0 f1 f3 f4 f5;obtain⟨o,e,c,d⟩:=id st';refine⟨u,rfl,tQ (s:={ s with heap:=h' }) e c d (by decide) ⟨x,H,I1,ru,⟨rfl,fun ys hy=>?_⟩,⟨hi,st'⟩,fun b hb=>(hf b hb).1⟩⟩;rw[I.fO hy hq,V8 (by lia),hl];exact hx
 done:=by
  intro X hP hw hK hc i uV s σ H E I hf st hg;subst hP hw hK;obtain⟨f0,f1,f2,f3,f4,f5⟩:=hf it (by simp);obtain⟨h1,st⟩:=st;have h2:n<=i:=hg;have ei:((n:Int)-1-(i:Nat))=-1:=by lia
  rw[ei]at st;exact wpAny_pyNext_rev_end (I.ok.hd hc) st fun h' eb=>⟨rfl,I.turned (t':=s.toks) (fun b o hb e=>eb b o hb e) f0 f1 f3 f4 f5⟩
 self:=fun _ _ _ _ _ st h=>wpAny_pyIter_revIter st.2 h
def Ja(K:eg)(tl:TE):TI:=fun σ H R=>tl σ H fun x H1=>∃a xs,x=.ref a/\SqL K H1 a xs/\R (Itv K a xs.length) H1
section
variable{X:Cx}{tg l:Expr}{tl:TE}{p pos:Pos}
theorem Cn{Q:Value->Shared->Prop}{Qx:VK}{uV:List (Addr×Obj)}{s:Shared}{σ:L2.St}{H:Hp}(hg:Gl X "reversed")(hm:X.mg "reversed" = none)(hl:PE X l tl)(hs:starEach [l] X.env=[(false,eval l X.env)])(I:Inv X uV σ H s)(h:tl σ H Qx)
  (k:∀x H1 s1,Inv X uV σ H1 s1->Qx x H1->∃a xs,x=.ref a/\SqL X.K H1 a xs/\∀its:List Value,Vals xs its->PlainL s1.heap a its.toArray->xs.length<=sizeLine->Q (.ref s1.heap.objs.size) { s1 with heap:=s1.heap.push (revObj a ((its.toArray.size:Int)-1)) }) :
  wpAny (model X.prog X.w) X.A (eval (.Call (.Name "reversed" p) [l] [] pos) X.env) Q X.xe s:=by
 refine Call_ (cN I hg hm boot_reversed (Ub (spliced_more ?_ (by rw[hs];rfl)) (by rw[hs];rfl) rfl));refine thn (hl uV s σ H _ I h) fun v s1 ⟨x,H1,I1,r1,q1⟩=>?_;obtain⟨a,xs,e,hq,q⟩:=k x H1 s1 I1 q1;subst e;cases r1;obtain⟨its,rv,pl,hz⟩:=I1.list hq;refine U5 (call_reversed_list pl.isList (q its rv pl hz))
theorem LL(hg:Gl X "reversed")(hm:X.mg "reversed" = none)(hl:PE X l tl)(hs:starEach [l] X.env=[(false,eval l X.env)]:=by rfl):PI X tg (.Call (.Name "reversed" p) [l] [] pos) (Ja X.K tl):=by
 intro uV s σ H R I h;refine Cn hg hm hl hs I h fun x H1 s1 I1 q1=>?_;obtain⟨a,xs,e,hq,q⟩:=q1;refine⟨a,xs,e,hq,fun its rv pl hz=>?_⟩;have hn:(its.toArray.size:Int)=((xs.length:Nat):Int):=by rw[Sx,rv.length]
 have st:({ s1 with heap:=s1.heap.push (revObj a ((its.toArray.size:Int)-1)) }:Shared).heap.IsRevIter s1.heap.objs.size a (((xs.length:Nat):Int)-1-((0:Nat):Int)):=⟨_,TQ _ rfl,rfl,by rw[hn];simp[revObj]⟩
 refine wpAny_pyIter_revIter st ?_;refine⟨s1.heap.objs.size,[s1.heap.objs.size],_,_,H1,rfl,I1.kept (t':=s1.toks) fun b o e=>gV _ e,Cm a _ xs.length,⟨T8 _,st⟩,fun b hb=>?_,q⟩;have e:b=s1.heap.objs.size:=by simpa using hb
 subst e;exact I1.tP (Nat.le_refl _) (I1.hok.fresh (Nat.le_refl _))
end
noncomputable def Ite(K:eg)(a:Addr):It:=
 ⟨fun i H=>∃xs x,SqL K H a xs/\xs[i]?=some x,fun i H x H'=>∃p v,H p=none/\x=.ref p/\H'=upd H p (.tup [.int i,v])/\∀xs,SqL K H a xs->xs[i]?=some v,fun i H=>∃xs,SqL K H a xs/\xs.length<=i⟩
theorem AB{P:Program}{w:World}{K:eg}{elts:List Expr}{x1}{tp:Pos}(a e it:Addr)(SI:e≠it):Turn P w K (.Tuple elts x1 tp) (Ite K a) [e,it] e (fun i h=>(∃old,IsEnum h e it (i:Nat) old)/\h.IsListIter it a i) where
 mem:=by simp
 obj:=fun i h st b hb=>by
  obtain⟨⟨old,he⟩,o,e1,c,d⟩:=st;rcases Tp.mp hb with rfl | hb
  ·exact ⟨_,he,fun v z=>by have z':W3 _=Wq v:=z;cases z'⟩
  ·have e2:b=it:=by simpa using hb
   subst e2;exact⟨o,e1,fun v z=>by rw[d]at z;cases z⟩
 keep:=fun i h h' st k=>⟨let ⟨old,he⟩:=st.1;⟨old,k e (by simp) _ he⟩,st.2.at fun o z=>k it (by simp) o z⟩
 item:=by
  intro X hP hw hK hc i uV s σ H E I hf st hg;subst hP hw hK;obtain⟨xs,x,hq,hx⟩:=hg;obtain⟨its,rv,p,hz⟩:=I.list hq;obtain⟨u,hu,ru⟩:=rv.get hx;obtain⟨⟨old,he⟩,JB⟩:=st;refine wpAny_pyNext_enum_item he JB p.isList (x:=u) (by simpa using hu) SI fun h1 heo R8 ht1 hz1 hk1=>?_;refine⟨_,rfl,wpAny_letOwnedTupleGo_enum heo fun h2 he2 hs2=>?_⟩;have En:e<s.heap.objs.size:=Tn he;have ht2:h2.get? s.heap.objs.size=some { cls:=.type "tuple",data:=.seq #[.int i s.toks,u] }:=(hs2.2 _ (UM En)).trans ht1;have k2:∀b o,b∉[e,it]->s.heap.get? b=some o->h2.get? b=some o:=fun b o hb z=>by have n1:b≠e:=fun y=>hb (by simp[y]);have n2:b≠it:=fun y=>hb (by simp[y]);exact(hs2.2 b n1).trans (hk1 b o n1 n2 z)
  have hn:H s.heap.objs.size=none:=I.hok.fresh (Nat.le_refl _);have I2:Inv X uV σ (upd H s.heap.objs.size (.tup [.int i,x])) { s with heap:=h2,toks:=s.toks+1 }:=
   qy I hf k2 (Nat.le_refl _) ⟨by simp[sizeLine],[.int i s.toks,u],.cons ⟨s.toks,rfl⟩ (.cons ru .nil),_,ht2,rfl,_,rfl⟩
  refine⟨.ref s.heap.objs.size,_,I2,rfl,⟨_,x,hn,rfl,rfl,fun ys hy=>by rw[I.fO hy hq];exact hx⟩,⟨⟨u,?_⟩,?_⟩,fun b hb=>?_⟩
  ·have:(((i+1:Nat):Int))=(i:Int)+1:=by lia
   rw[this];exact he2
  ·exact R8.at fun o z=>(hs2.2 it (Ue SI)).trans z
  ·have hb1:b≠s.heap.objs.size:=fun y=>by
    rcases Tp.mp hb with z | z
    ·rw[y]at z;exact absurd z (UM En)
    ·have z':b=it:=by simpa using z
     obtain⟨o,ho,_⟩:=JB;have:=Tn ho;rw[<- z',y]at this;exact Uu _ this
   rw[aj hb1];exact(hf b hb).1
 done:=by intro X hP hw hK hc i uV s σ H E I hf st hg;subst hP hw hK;obtain⟨xs,hq,hx⟩:=hg;obtain⟨its,rv,p,hz⟩:=I.list hq;obtain⟨f0,f1,f2,f3,f4,f5⟩:=hf it (by simp);obtain⟨⟨old,he⟩,JB⟩:=st;have hl:=rv.length;exact wpAny_pyNext_enum_end (I.ok.hd hc) he JB p.isList (by simp;lia) fun h' eb=>⟨rfl,I.turned (t':=s.toks) (fun b o hb e=>eb b o hb e) f0 f1 f3 f4 f5⟩
 self:=fun A i s Q E st h=>by
  obtain⟨⟨old,he⟩,JB⟩:=st;have hT:s.TypeIs (.ref e) "enumerate" := ⟨_,he,rfl⟩
  refine wpAny_pyIter_slot hT F.slot_enumerate_iter (wpAny_call_entry F.slot_enumerate_iter hT F.entry_enumerate_iter ?_ (F.args_enumerate_iter_1 _));show wpAny _ _ (ret (.ref e)) _ _ s;exact wpAny_pure ⟨_,rfl,"enumerate",_,hT,F.slot_enumerate_next.lookup,h⟩
def Pj(K:eg)(tl:TE):TI:=fun σ H R=>tl σ H fun x H1=>∃a,x=.ref a/\(∃xs,SqL K H1 a xs)/\R (Ite K a) H1
section
variable{X:Cx}{l:Expr}{tl:TE}{p pos:Pos}{elts:List Expr}{x1:Nat}{tp:Pos}
theorem GA(hg:Gl X "enumerate")(hm:X.mg "enumerate" = none)(hl:PE X l tl)(hs:starEach [l] X.env=[(false,eval l X.env)]:=by rfl):PI X (.Tuple elts x1 tp) (.Call (.Name "enumerate" p) [l] [] pos) (Pj X.K tl):=by
 intro uV s σ H R I h;refine Call_ (cN I hg hm boot_enumerate (Ub (spliced_more ?_ (by rw[hs];rfl)) (by rw[hs];rfl) rfl));refine thn (hl uV s σ H _ I h) fun v s1 ⟨x,H1,I1,r1,q1⟩=>?_;obtain⟨a,e,⟨xs,hq⟩,q⟩:=q1;subst e;cases r1;obtain⟨its,rv,pl,hz⟩:=I1.list hq;refine U5 (call_enumerate_list pl.isList fun h' he JB hsz k=>?_);have I2:Inv X uV σ H1 { s1 with heap:=h' }:=I1.kept (t':=s1.toks) k;have T:=AB (P:=X.prog) (w:=X.w) (K:=X.K) (elts:=elts) (x1:=x1) (tp:=tp) a (s1.heap.objs.size+1) s1.heap.objs.size (Nat.succ_ne_self _);refine T.self X.A 0 { s1 with heap:=h' } _ X.xe ⟨⟨_,he⟩,JB⟩ ?_;refine⟨s1.heap.objs.size+1,[s1.heap.objs.size+1,s1.heap.objs.size],_,_,H1,rfl,I2,T,⟨⟨_,he⟩,JB⟩,fun b hb=>?_,q⟩;have:s1.heap.objs.size<=b:=by
  rcases Tp.mp hb with rfl | hb
  ·exact V1 _
  ·have:b=s1.heap.objs.size:=by simpa using hb
   exact WL this.symm
 exact I1.tP this (I1.hok.fresh this)
end
theorem xg:typeLookup (.type "list_reverseiterator") "__len__" = pure none:=by rw[typeLookup_type,builtinLookup_eq_fast];kernel_rfl
theorem Co:typeLookup (.type "list_reverseiterator") "__length_hint__" = pure (some (.builtin "list_reverseiterator.__length_hint__")):=by rw[typeLookup_type,builtinLookup_eq_fast];kernel_rfl
section
variable{prog:Program}{w:World}{A:Around}{E:Value->Shared->Prop}{s:Shared}
section
variable{I l:Addr}
theorem Cp{i:Int}{Q:Bool->Shared->Prop}(JB:s.heap.IsRevIter I l i)(h:Q false s):wpAny (model prog w) A (Builtin.List.listLengthHint (.ref I)) Q E s:=by
 unfold Builtin.List.listLengthHint;refine wpAny_bind (wpAny_specialOf JB.typeIs xg ?_);show wpAny _ A (specialOf (TZ I) (WM "__length_hint__") >>= _) _ _ _;refine wpAny_bind (wpAny_specialOf JB.typeIs Co ?_)
 generalize hid:("list_reverseiterator.__length_hint__" : String)=id0
 wp_delta
 rw[show splitId id0=some ("list_reverseiterator","__length_hint__") from by subst hid;decide +kernel];subst hid;refine wpAny_bind (wpAny_isInstance (T := "list_reverseiterator") (b:=true) JB.typeIs (by rw[isSubtype_type];kernel_rfl) ?_);refine wpAny_ite_split (fun SA=>absurd SA (by decide)) (fun _=>?_);refine wpAny_ite_split (fun _=>?_) (fun SA=>absurd (by decide +kernel) SA);refine wpAny_ite_split (fun SA=>absurd SA (by decide +kernel)) (fun _=>wpAny_pure h)
theorem xh{R:Result->Shared->Prop}{items:Array Value}(hh:A.handled=none)(JB:s.heap.IsRevIter I l ((items.size:Int)-1))(hl:s.heap.IsList l items)(SI:l≠I)(xM:items.size<=sizeLine)
  (S:Addr) (res:Value) (c₀:Nat) (hSI:S≠I) (hSl:S≠l) (hS:s.heap.get? S=some { cls:=.type "list",data:=.seq #[] c₀ })
  (hR:∀ h' tk acc' c',(∀ b o,b≠S→b≠I→s.heap.get? b=some o→h'.get? b=some o)→h'.get? S=some { cls:=.type "list",dict:=none,data:=.seq acc' c',slots:=#[] } →
   ItemsOf (fun i v=>items[items.size-1-i]?=some v) acc' items.size->R (.ok (.ret res)) { s with heap:=h',toks:=tk }) :
  wpAny (model prog w) A.in1 (Vf (.ref S) (.ref I) res)
   (fun HB s'=>match HB with | .done f=>R (.ok f) s' | .again c'=>c'.quiet=true/\codeAny (model prog w) A c' R s') (fun e s'=>R (.error e) s') s:=by
 have hSf:S∉[I,l]:=fun hm=>by
  rcases Tp.mp hm with z | z
  ·exact hSI z
  ·exact hSl (TJ.mp z)
 have W:=(Walks.listRev (prog:=prog) (w:=w) (A:=A.in1) hh I l SI items).toS;unfold Vf;refine wpAny_bind (wpAny_typeOf (T := "list_reverseiterator") JB.typeIs ?_);have h1:Builtin.List.listSameRef (.ref S) (.ref I)=false:=by simp[Builtin.List.listSameRef,hSI]
 have h2:(VP "list_reverseiterator" == VP "list")=false:=by decide
 have h3:(VP "list_reverseiterator" == VP "tuple")=false:=by decide
 simp only[h1,h2,h3,Bool.or_false,UN,if_false];refine wpAny_bind (wpAny_pyIter_revIter JB ?_);refine wpAny_bind (wpAny_holding (Cp JB ?_));refine wpAny_ite_split (fun SA=>absurd SA (by decide +kernel)) (fun _=>wpAny_pure ⟨plainId_quiet F.plain_extend_loop _,?_⟩);have hst:(0<=items.size)/\s.heap.IsRevIter I l ((items.size:Int)-1-((0:Nat):Int))/\s.heap.IsList l items:=⟨T8 _,by simpa using JB,hl⟩
 refine codeAny_extend_loopS W xM S hSf res items.size 0 _ #[] c₀ rfl (T8 _) hst hS (ItemsOf.nil _) fun s' acc' c' hm hS' hacc=>?_;rw[Moved.eq_with hm];refine hR s'.heap s'.toks acc' c' (fun b o hb hb2 e=>hm.heap b o (fun hmem=>?_) e) hS' hacc;rcases Tp.mp hmem with e' | hmem
 ·exact hb e'
 ·exact hb2 (TJ.mp hmem)
theorem Cq{R:Result->Shared->Prop}{items:Array Value}(hh:A.handled=none)(JB:s.heap.IsRevIter I l ((items.size:Int)-1))(hl:s.heap.IsList l items)(SI:l≠I)(xM:items.size<=sizeLine)
  (S:Addr) (hSI:S≠I) (hSl:S≠l) (hS:s.heap.get? S=some { cls:=.type "list",data:=.seq #[] })
  (hR:∀ h' tk acc' c',(∀ b o,b≠S→b≠I→s.heap.get? b=some o→h'.get? b=some o)→h'.get? S=some { cls:=.type "list",dict:=none,data:=.seq acc' c',slots:=#[] } →
   ItemsOf (fun i v=>items[items.size-1-i]?=some v) acc' items.size->R (.ok (.ret .none)) { s with heap:=h',toks:=tk }) :
  wpAny (model prog w) A.in1 (Builtin.«list.__init__» ⟨[.ref S,.ref I],[]⟩)
   (fun HB s'=>match HB with | .done f=>R (.ok f) s' | .again c'=>c'.quiet=true/\codeAny (model prog w) A c' R s') (fun e s'=>R (.error e) s') s:=by
 show wpAny _ A.in1 (do let old <- Builtin.List.listItems (.ref S);Builtin.List.listUpdate (.ref S) (fun _=>#[]);letGo old.toList.reverse;Vf (.ref S) (.ref I) .none) _ _ s;refine wpAny_bind ?_;unfold Builtin.List.listItems;refine wpAny_bind (wpAny_seqItems hS rfl (wpAny_pure ?_));show wpAny _ A.in1 (updateSeq S (fun _=>#[]) >>= fun _=>letGo (#[]:Array Value).toList.reverse >>= fun _=>Vf (.ref S) (.ref I) .none) _ _ s;refine wpAny_bind (wpAny_updateSeq hS rfl ?_);have hS₂:=VB (T3 (fun _=>(#[]:Array Value))) hS rfl;have oth:∀b o,b≠S->s.heap.get? b=some o->(s.heap.update S (T3 (fun _=>(#[]:Array Value)))).get? b=some o:=
  fun b o hb e=>(VZ _ _ (Ue hb)).trans e
 refine wpAny_bind (wpAny_letGo ?_);refine xh hh (JB.at fun o e=>oth I o (Ue hSI) e) (hl.at fun o e=>oth l o (Ue hSl) e) SI xM S .none _ hSI hSl hS₂ fun h' tk acc' c' hk hS' hacc=>?_;exact hR h' tk acc' c' (fun b o hb hb2 e=>hk b o hb hb2 (oth b o hb e)) hS' hacc
theorem pX{Q:Value->Shared->Prop}{items:Array Value}(hh:A.handled=none)(JB:s.heap.IsRevIter I l ((items.size:Int)-1))(hl:s.heap.IsList l items)(SI:l≠I)(xM:items.size<=sizeLine)
  (hQ:∀ h' tk acc' c',(∀ b o,b≠I→s.heap.get? b=some o→h'.get? b=some o)→h'.get? s.heap.objs.size=some { cls:=.type "list",dict:=none,data:=.seq acc' c',slots:=#[] } →
   ItemsOf (fun i v=>items[items.size-1-i]?=some v) acc' items.size->Q (.ref s.heap.objs.size) { s with heap:=h',toks:=tk }) :
  wpAny (model prog w) A (call (.type "list") [.ref I]) Q E s:=by
 refine callType_codes (Q₁:=fun obj s₁=>obj=.ref s.heap.objs.size/\s₁={ s with heap:=s.heap.push { cls:=.type "list",data:=.seq #[] } }) F.called_list (F.typeCall_list_1 _) F.entry_list_init
  (code_list_new _ ⟨rfl,rfl⟩) fun obj s₁ h₁=>?_
 obtain⟨rfl,rfl⟩:=h₁;have hS:(s.heap.push { cls:=.type "list",data:=.seq #[] }).get? s.heap.objs.size=some { cls:=.type "list",data:=.seq #[] }:=TQ _ rfl;obtain⟨oi,hoi,_⟩:=id JB;obtain⟨ol,hol,_⟩:=id hl;refine⟨⟨_,hS,rfl⟩,F.args_list_init_2 _ _,Cq (A:=A.in1) hh (JB.at fun o e=>gV _ e) (hl.at fun o e=>gV _ e) SI xM _ (UM (Tn hoi)) (UM (Tn hol)) hS fun h' tk acc' c' hk hS' hacc=>?_⟩;exact⟨rfl,hQ h' tk acc' c' (fun b o hb e=>hk b o (Tu (Tn e)) hb (gV _ e)) hS' hacc⟩
end
end
theorem m8{P:Nat->Value->Prop}{DZ:Array Value}{ys:List V}(h:ItemsOf P DZ ys.length)(k:∀i v,P i v->i<ys.length->∃y,ys[i]?=some y/\RelV y v):Vals ys DZ.toList:=by
 have:∀(ys:List V) (us:List Value),ys.length=us.length->(∀(i:Nat) (u:Value),us[i]?=some u->∃y,ys[i]?=some y/\RelV y u)->Vals ys us:=by
  intro ys
  induction ys with
  |nil=>intro us e _;cases us with
   |nil=>exact .nil
   |cons _ _=>cases e
  |cons y ys ih=>intro us e f;cases us with
   |nil=>cases e
   |cons u us=>obtain⟨y',h1,h2⟩:=f 0 u rfl;cases h1;exact .cons h2 (ih us (by simpa using e) fun i u' hu=>by simpa using f (i+1) u' (by simpa using hu))
 refine this ys DZ.toList (by have:=h.1;simp only[TH];exact this.symm) fun i u hu=>?_;have hu':DZ[i]?=some u:=by rw[<- Um];exact hu
 have hi:i<ys.length:=by rw[<- h.1];exact(Array.getElem?_eq_some_iff.mp hu').1
 exact k i u (h.2 i u hu') hi
def LM(K:eg)(tl:TE):TE:=fun σ H Q=>tl σ H fun x H1=>∃a xs,x=.ref a/\SqL K H1 a xs/\∀q,H1 q=none->Q (.ref q) (upd H1 q (.lst xs.reverse))
def Pk(ta:TA):TE:=fun σ H Q=>ta σ H fun vs H1=>∃j:Int,vs=[.int j]/\-(2 ^ 62)<=j/\j<=1000000/\∀q,H1 q=none->Q (.ref q) (upd H1 q (.lst ((TV j.toNat).map fun i=>V.int (i:Nat))))
section
variable{X:Cx}{l a:Expr}{tl:TE}{ta:TA}{p pos p0 kJ:Pos}
theorem Cr(hc:X.calm=true)(hgl:Gl X "list")(hml:X.mg "list" = none)(hg:Gl X "reversed")(hm:X.mg "reversed" = none)(hl:PE X l tl)(hs:starEach [l] X.env=[(false,eval l X.env)]:=by rfl)
  (hs0:starEach [.Call (.Name "reversed" p) [l] [] pos] X.env=[(false,eval (.Call (.Name "reversed" p) [l] [] pos) X.env)]:=by rfl) :
  PE X (.Call (.Name "list" p0) [.Call (.Name "reversed" p) [l] [] pos] [] kJ) (LM X.K tl):=by
 intro uV s σ H Q I h;refine wpAny_Call_Name_kw (cN I hgl hml boot_list (Ub (spliced_more ?_ (by rw[hs0];rfl)) (by rw[hs0];rfl) rfl));refine Cn hg hm hl hs I h fun x H1 s1 I1 q1=>?_;obtain⟨a,xs,e,hq,q⟩:=q1;refine⟨a,xs,e,hq,fun its rv pl hz=>U5 ?_⟩;have hal:a<s1.heap.objs.size:=by obtain⟨o,ho,_⟩:=pl.isList;exact Tn ho
 have hn:=rv.length;refine pX (items:=its.toArray) (I.ok.hd hc) ⟨_,TQ _ rfl,rfl,rfl⟩ (pl.isList.at fun o e=>gV _ e) (Tu hal) (by rw[Sx,<- hn];exact hz) fun h' tk acc' c' hk hS' hacc=>?_;have hsz:({ s1 with heap:=s1.heap.push (revObj a ((its.toArray.size:Int)-1)) }:Shared).heap.objs.size=s1.heap.objs.size+1:=VD ..;have hp:s1.heap.objs.size<=({ s1 with heap:=s1.heap.push (revObj a ((its.toArray.size:Int)-1)) }:Shared).heap.objs.size:=by rw[hsz];exact V1 _
 have vl:Vals xs.reverse acc'.toList:=by
  refine m8 (by rw[UI,hn,<- Sx];exact hacc) fun i v hv hi=>?_;rw[UI]at hi;rw[Sx]at hv;have hv':its[its.length-1-i]?=some v:=by simpa using hv
  rw[V8 hi,hn];have En:=(Tj.mp hv').1;have hx:xs[its.length-1-i]?=some (xs[its.length-1-i]'(by lia)):=Tv _;obtain⟨u,hu,ru⟩:=rv.get hx;rw[hv']at hu;cases hu;exact⟨_,hx,ru⟩
 have ok:aR X.prog X.w (upd H1 ({ s1 with heap:=s1.heap.push (revObj a ((its.toArray.size:Int)-1)) }:Shared).heap.objs.size (.lst xs.reverse)) h' ({ s1 with heap:=s1.heap.push (revObj a ((its.toArray.size:Int)-1)) }:Shared).heap.objs.size (.lst xs.reverse):=⟨by rw[UI];exact hz,acc'.toList,c',vl,by simpa using hS'⟩
 exact⟨.ref _,_,I1.laid (t':=tk) (fun b u e=>hk b u (Tu (Tn e)) (gV _ e)) hp ok,rfl,q _ (I1.hok.fresh hp)⟩
theorem GB(hc:X.calm=true)(hgl:Gl X "list")(hml:X.mg "list" = none)(hg:Gl X "range")(hm:X.mg "range" = none)(ha:PA X [a] ta)(hs:starEach [a] X.env=[(false,eval a X.env)]:=by rfl)
  (hs0:starEach [.Call (.Name "range" p) [a] [] pos] X.env=[(false,eval (.Call (.Name "range" p) [a] [] pos) X.env)]:=by rfl) :
  PE X (.Call (.Name "list" p0) [.Call (.Name "range" p) [a] [] pos] [] kJ) (Pk ta):=by
 intro uV s σ H Q I h;refine wpAny_Call_Name_kw (cN I hgl hml boot_list (Ub (spliced_more ?_ (by rw[hs0];rfl)) (by rw[hs0];rfl) rfl));refine Call_ (cN I hg hm boot_range (Ub (thn (ha pos uV s σ H _ I h) fun us s1 ⟨vs,H1,I1,r1,q1⟩=>?_) hs rfl));obtain⟨j,e,q1,q2,q⟩:=q1;subst e;cases r1 with
 |cons r rr=>
  cases rr;obtain⟨t,rfl⟩:=r;refine call_range_1 (U5 ?_);have hn:U6 0 j 1=(j.toNat:Nat):=by rw[rangeSize_one];split<;>lia
  refine call_list_range (n:=j.toNat) (I.ok.hd hc) (IsRange.new ..) (small_one (by lia) (by lia) q1 (by lia)) hn (by lia) fun h' tk acc' c' hk hS' hacc=>?_;have hsz:(s1.heap.push { cls:=.type "range",data:=.fields #[.int 0 s1.toks,.int j t,.int 1 (s1.toks+1)] }).objs.size=s1.heap.objs.size+1:=VD ..;have hp:s1.heap.objs.size<=(s1.heap.push { cls:=.type "range",data:=.fields #[.int 0 s1.toks,.int j t,.int 1 (s1.toks+1)] }).objs.size:=by rw[hsz];exact V1 _
  have vl:Vals ((TV j.toNat).map fun i=>V.int (i:Nat)) acc'.toList:=by
   refine m8 (by rw[Dp,Uq];exact hacc) fun i v hv hi=>?_;obtain⟨t,rfl⟩:=hv;rw[Dp,Uq]at hi;refine⟨.int (i:Nat),by rw[TM,U9 hi];rfl,t,?_⟩;have:(0:Int)+(i:Int)*1=i:=by lia
   rw[this]
  have ok:aR X.prog X.w (upd H1 (s1.heap.push { cls:=.type "range",data:=.fields #[.int 0 s1.toks,.int j t,.int 1 (s1.toks+1)] }).objs.size (.lst ((TV j.toNat).map fun i=>V.int (i:Nat)))) h' (s1.heap.push { cls:=.type "range",data:=.fields #[.int 0 s1.toks,.int j t,.int 1 (s1.toks+1)] }).objs.size (.lst ((TV j.toNat).map fun i=>V.int (i:Nat))):=
   ⟨by rw[Dp,Uq,sizeLine_eq];lia,acc'.toList,c',vl,by simpa using hS'⟩
  exact⟨.ref _,_,I1.laid (t':=tk) (fun b u e=>hk b u (gV _ e)) hp ok,rfl,q _ (I1.hok.fresh hp)⟩
end
section
variable{ds:List Dat}{xs:List V}{a:Addr}{H0:Hp}
theorem aD.rev{H:Hp}(h:aD H xs ds):aD H xs.reverse ds.reverse:=by
 induction xs generalizing ds with
 |nil=>cases h;exact .nil
 |cons x xs ih=>
  cases h with
  |cons r rs=>rw[WJ,WJ];exact(ih rs).append (.cons r .nil)
theorem LN{K:eg}(hq:Rd H0 a (.lst xs))(rs:aD H0 xs ds):JW (Itv K a xs.length) H0 ds.reverse:=by intro H0' H s0 s1;have q:SqL K H a xs:=.inl (av.rd s1 (av.rd s0 hq));refine⟨fun i hi=>by rw[UI,<- rs.length]at hi;exact hi,fun i d e=>?_⟩;obtain⟨v,hv,rv⟩:=rs.rev.get e;refine⟨⟨xs,v,q,rfl,hv⟩,fun x H' y=>?_⟩;obtain⟨e1,y⟩:=y;subst e1;have z:=y xs q;rw[hv]at z;cases z;exact⟨H0',aJ.refl s1,rv.mono s0⟩
theorem uu:∀(ds:List Dat) (i:Nat),(Dm.jQ i ds).length=ds.length
 |[],_=>rfl
 |_::ds,i=>by simp[Dm.jQ,uu ds]
theorem uw:∀(ds:List Dat) (i j:Nat) (d:Dat),(Dm.jQ i ds)[j]?=some d->∃x,ds[j]?=some x/\d=.tup [.int ((i+j:Nat):Int),x]
 |[],_,_,_,h=>by cases h
 |x::ds,i,0,d,h=>by cases h;exact⟨x,rfl,rfl⟩
 |x::ds,i,j+1,d,h=>by
  obtain⟨y,h1,h2⟩:=uw ds (i+1) j d h;refine⟨y,h1,?_⟩;rw[h2];have:i+1+j=i+(j+1):=by lia
  rw[this]
theorem GC{K:eg}(hq:Rd H0 a (.lst xs))(rs:aD H0 xs ds):JW (Ite K a) H0 (Dm.jQ 0 ds):=by intro H0' H s0 s1;have q:SqL K H a xs:=.inl (av.rd s1 (av.rd s0 hq));refine⟨fun i hi=>⟨xs,q,by rw[rs.length,<- uu ds 0];exact hi⟩,fun i d e=>?_⟩;obtain⟨d',hd,rfl⟩:=uw ds 0 i d e;obtain⟨v,hv,rv⟩:=rs.get hd;refine⟨⟨xs,v,q,hv⟩,fun x H' y=>?_⟩;obtain⟨p,v',hn,rfl,rfl,y⟩:=y;have z:=y xs q;rw[hv]at z;cases z;have g:=aJ.Am (o:=HO.tup [.int i,v]) s1 hn;refine⟨_,g,.tup ak (.cons ?_ (.cons ((rv.mono s0).mono g.s0) .nil))⟩;rw[VE];exact .int _
end
section
variable{σ:L2.St}{H:Hp}{R:It->Hp->Prop}
theorem LO{K:eg}{f:FE}(h:tDI (Dm.AA f) σ H R):Ja K (tD f) σ H R:=by
 obtain⟨H0,ρ,ys,ρ',st,e,k⟩:=h;unfold Dm.AA at e;split at e
 ·cases e
 rename_i x ρ1 e1;split at e
 ·rename_i ds ρ2 e2;cases e;refine⟨H0,ρ,_,ρ1,st,e1,fun v H0' H' t r=>?_⟩;obtain⟨H1,t1,b1,r1,_,_⟩:=take1 t (av.refl _) r e2;cases r1 with
  |lst q rs=>exact⟨_,_,rfl,.inl (av.rd t1.st.same q),k _ H1 H' t1 (LN q rs)⟩
 ·cases e
theorem Pn{K:eg}{f:FE}(h:tDI (Dm.iEn f) σ H R):Pj K (tD f) σ H R:=by
 obtain⟨H0,ρ,ys,ρ',st,e,k⟩:=h;unfold Dm.iEn at e;split at e
 ·cases e
 rename_i x ρ1 e1;split at e
 ·rename_i ds ρ2 e2;cases e;refine⟨H0,ρ,_,ρ1,st,e1,fun v H0' H' t r=>?_⟩;obtain⟨H1,t1,b1,r1,_,_⟩:=take1 t (av.refl _) r e2;cases r1 with
  |lst q rs=>exact⟨_,rfl,⟨_,.inl (av.rd t1.st.same q)⟩,k _ H1 H' t1 (GC q rs)⟩
 ·cases e
end
theorem Cs{K:eg}:UnD (fun x H Q=>∃a xs,x=.ref a/\SqL K H a xs/\∀q,H q=none->Q (.ref q) (upd H q (.lst xs.reverse))) Dm.m7:=by
 intro H0 H x dx z Q s rx e k;unfold Dm.m7 at e;split at e
 ·cases e;obtain⟨a,us,rfl,qa,ra⟩:=br s rx;exact⟨a,us,rfl,.inl qa,fun p hp=>k _ _ _ (aJ.jJ s hp) ⟨p,rfl,hp,s.free hp,_,ak,ra.rev⟩⟩
 ·cases e
theorem Ct{H:Hp}:∀(n:Nat) ,aD H ((TV n).map fun i=>V.int (i:Nat)) (Dm.ups 0 n):=by
 intro n;unfold Dm.ups;have:∀l:List Nat,aD H (l.map fun i=>V.int (i:Nat)) (l.map fun i=>Dat.int (0+(i:Nat))):=fun l=>by
  induction l with
  |nil=>exact .nil
  |cons x l ih=>rw[PU,PU,Int.zero_add];exact .cons (.int _) ih
 exact this _
theorem GD:CallD (fun xs H Q=>∃j:Int,xs=[.int j]/\-(2 ^ 62)<=j/\j<=1000000/\∀q,H q=none->Q (.ref q) (upd H q (.lst ((TV j.toNat).map fun i=>V.int (i:Nat))))) Dm.qx:=by
 intro H0 H xs ds z Q s rx e k;unfold Dm.qx at e;split at e
 ·rename_i j;split at e
  ·rename_i hb;cases e;cases rx with
   |cons r rr=>cases rr;cases aC r;exact⟨j,rfl,by lia,hb.1,fun p hp=>k _ _ _ (aJ.jJ s hp) ⟨p,rfl,hp,s.free hp,_,ak,Ct _⟩⟩
  ·cases e
 ·cases e
section
variable{X:Cx}{tg e a b c:Expr}{f fa fb fc:FE}{p pos p0 kJ:Pos}{elts:List Expr}{x1:Nat}{tp:Pos}
theorem Po(hg:Gl X "reversed")(hm:X.mg "reversed" = none)(h:DE X e f)(hs:starEach [e] X.env=[(false,eval e X.env)]:=by rfl):DI X tg (.Call (.Name "reversed" p) [e] [] pos) (Dm.AA f):=PI.weak (LL hg hm h hs) fun _ _ _=>LO
theorem Pp(hg:Gl X "enumerate")(hm:X.mg "enumerate" = none)(h:DE X e f)(hs:starEach [e] X.env=[(false,eval e X.env)]:=by rfl):DI X (.Tuple elts x1 tp) (.Call (.Name "enumerate" p) [e] [] pos) (Dm.iEn f):=PI.weak (GA hg hm h hs) fun _ _ _=>Pn
theorem GF(hc:X.calm=true)(hgl:Gl X "list")(hml:X.mg "list" = none)(hg:Gl X "reversed")(hm:X.mg "reversed" = none)(h:DE X e f)(hs:starEach [e] X.env=[(false,eval e X.env)]:=by rfl)
  (hs0:starEach [.Call (.Name "reversed" p) [e] [] pos] X.env=[(false,eval (.Call (.Name "reversed" p) [e] [] pos) X.env)]:=by rfl) :
  DE X (.Call (.Name "list" p0) [.Call (.Name "reversed" p) [e] [] pos] [] kJ) (Dm.e1 Dm.m7 f):=PE.weak (Cr hc hgl hml hg hm h hs hs0) fun _ _ _=>OL Cs
theorem LP(hc:X.calm=true)(hgl:Gl X "list")(hml:X.mg "list" = none)(hg:Gl X "range")(hm:X.mg "range" = none)(h:DA X [a] [fa])(hs:starEach [a] X.env=[(false,eval a X.env)]:=by rfl)
  (hs0:starEach [.Call (.Name "range" p) [a] [] pos] X.env=[(false,eval (.Call (.Name "range" p) [a] [] pos) X.env)]:=by rfl) :
  DE X (.Call (.Name "list" p0) [.Call (.Name "range" p) [a] [] pos] [] kJ) (Dm.eB Dm.qx [fa]):=PE.weak (GB hc hgl hml hg hm h hs hs0) fun _ _ _=>Gb GD
end
end Br
namespace Dm
noncomputable def aM(i:Nat)(own:Nat)(bd:FB)(t:FT)(el:FE):FE:=fun ρ=>match ρ[i]? with
 | some (.ow (.lst ds))=>if ds.length≤SZ then (match cK bd t el ds (ρ.set i .un++Dk own .un) [] with
  |none=>none
  |some (ys,ρ2)=>some (.new (.lst ys),(ρ2.take ρ.length).set i (.ow (.lst ds)))) else none
 |_=>bO (iS (eV i)) own bd t el ρ
end Dm
namespace Br
open PySem PySem.Spec PyProof.Rows L2
theorem Cu{K:eg}{H0:Hp}{a:Addr}{xs:List V}{ds:List Dat}(rs:aD H0 xs ds):JWa (Itl K a) H0 (some (a,.lst xs)) ds:=by intro H0' H s0 s1 hq;have hq:=hq _ rfl;have q:SqL K H a xs:=.inl (.inl hq);refine⟨fun i hi=>⟨xs,q,by rw[rs.length];exact hi⟩,fun i d e=>?_⟩;obtain⟨v,hv,rv⟩:=rs.get e;refine⟨⟨xs,v,q,hv⟩,fun x H' y=>?_⟩;obtain⟨e1,y⟩:=y;subst e1;have z:=y xs q;rw[hv]at z;cases z;exact⟨H0',aJ.refl s1,rv.mono s0⟩
theorem yM{K:eg}{σ:L2.St}{H:Hp}{i own:Nat}{bd:Dm.FB}{g:TG}{t:FT}{el:FE}{is:List Nat}{Q:VK}(hb:BD is g bd)(hl:∀i∈is,σ.length<=i)(h:tD (Dm.aM i own bd t el) σ H Q) :
  tLC (fun σ H R=>tR K (tD (Dm.eV i)) σ H R\/Bx K (tD (Dm.eV i)) σ H R) own g (tDT t) (tD el) σ H Q:=by
 obtain⟨H0,ρ,x,ρ',st,e,k⟩:=h;unfold Dm.aM at e;split at e
 ·rename_i ds eo;split at e
  case isFalse=>cases e
  rename_i hsz;split at e
  ·cases e
  rename_i ys ρ2 e2;cases e;refine .inl ⟨H0,ρ,.slot i,ρ,st,by unfold Dm.eV;rw[eo],fun v H0' H' t1 r=>?_⟩;obtain⟨a,qa,na,xs,ha,rs⟩:=t1.st.ow i _ eo;obtain⟨r1,_⟩:=r;rw[qa]at r1;cases r1;have nO:¬ao σ (ρ.set i .un) a:=fun z=>by obtain⟨j,d,hj,h1,h2⟩:=cO z;exact hj (t1.st.dis j i d _ a h1 eo h2 qa)
  have En:i<ρ.length:=(Tj.mp eo).1;refine⟨a,rfl,⟨xs,.inl (.inl ha)⟩,fun D hD=>uf hb hl (t1.st.mask i) (fun q e=>by cases e;exact⟨ha,na,nO⟩) (Cu rs) hsz e2 (fun v H1 Hc t2 r2 hpa=>?_) D hD⟩;obtain⟨ha2,na2⟩:=hpa _ rfl;rw[Ug]at t2 r2;have oo:∀b,ao σ ((ρ2.take ρ.length).set i (.ow (.lst ds))) b->b=a\/ao σ (ρ2.take ρ.length) b:=fun b ⟨j,d,h1,h2⟩=>by
   by_cases q:i=j
   ·subst q;rw[qa]at h2;cases h2;exact .inl rfl
   ·rw[gc q]at h1;exact .inr ⟨j,d,h1,h2⟩
  have om:∀b,ao σ (ρ.set i .un) b->ao σ ρ b:=fun b z=>by obtain⟨j,d,hj,h1,h2⟩:=cO z;exact⟨j,d,h1,h2⟩
  have oa:ao σ ρ a:=⟨i,_,eo,qa⟩
  have nO2:¬ao σ (ρ2.take ρ.length) a:=fun z=>nO (t2.own a z);have Cv:(ρ2.take ρ.length).length=ρ.length:=by rw[<- t2.st.len,st.len]
  refine k v H1 Hc (t1.trans ⟨⟨t2.st.same,by rw[Ug];exact t2.st.len,fun j d h=>?_,fun j d h=>?_,fun j j' d d' b h1 h2 h3 h4=>?_⟩,t2.stp.wide om,fun b z=>?_,fun j z=>?_⟩) ?_
  ·by_cases q:i=j
   ·subst q;rw[TR (by rw[Cv];exact En)]at h;cases h
   ·rw[gc q]at h;exact t2.st.sh j d h
  ·by_cases q:i=j
   ·subst q;rw[TR (by rw[Cv];exact En)]at h;cases h;exact⟨a,qa,na2,xs,ha2,rs.mono t2.stp.s0⟩
   ·rw[gc q]at h;exact t2.st.ow j d h
  ·by_cases q:i=j
   ·subst q;by_cases q':i=j'
    ·exact q'
    ·rw[gc q']at h2;rw[qa]at h3;cases h3;exact absurd ⟨j',d',h2,h4⟩ nO2
   ·rw[gc q]at h1;by_cases q':i=j'
    ·subst q';rw[qa]at h4;cases h4;exact absurd ⟨j,d,h1,h3⟩ nO2
    ·rw[gc q']at h2;exact t2.st.dis j j' d d' b h1 h2 h3 h4
  ·rcases oo b z with rfl | z
   ·exact oa
   ·exact om b (t2.own b z)
  ·trivial
  ·obtain⟨D',e',n',no',n0',w'⟩:=r2;refine⟨D',e',t1.stp.gone n',fun z=>?_,n0',w'⟩;rcases oo D' z with rfl | z
   ·rw[n']at ha;cases ha
   ·exact no' z
 ·have h2:=wY (fi:=Dm.iS (Dm.eV i)) hb hl ⟨H0,ρ,x,ρ',st,e,k⟩;exact Ph h2
section
variable{X:Cx}{Qs tg:Expr}{Qo:List Expr}{scope:Scope}{pos px:Pos}{bd:Dm.FB}{is:List Nat}{t:FT}{f:FE}{x:Str}
theorem i_M(i:Nat)(h:DE X (.Name x px) (Dm.eV i)):PI X tg (.Name x px) (fun σ H R=>tR X.K (tD (Dm.eV i)) σ H R\/Bx X.K (tD (Dm.eV i)) σ H R):=PI.or (yp h) (By h)
theorem cL(i:Nat)(nm own:List Str)(hg:TGc X nm scope own tg is bd)(hi:DE X (.Name x px) (Dm.eV i))(ht:∀cl C s H fp,DTs (aZ X nm scope own cl C s H fp) Qo t)(he:∀cl C s H fp,DE (aZ X nm scope own cl C s H fp) Qs f)
  (hc:X.calm=true:=by rfl) (hk:scope.kind=.function:=by rfl) (hS:m6 X.env.scope X.N nm scope=true:=by rfl) (hl:(is.all fun i=>decide (X.N.length<=i))=true:=by rfl) (hs:∀y,foldedSetIterable (.Name x px) X.env y=pure y:=by intro _;rfl) :
  DE X (.ListComp Qs [⟨tg,.Name x px,Qo,0⟩] scope pos) (Dm.aM i own.length bd t f):=by
 obtain⟨g,h1,h2⟩:=hg.ex;intro uV s σ H Q I h;exact yF hc (dg.of hS hk) (i_M i hi) h1 ht he hs uV s σ H Q I (yM h2 (fun i hi=>by rw[I.len];exact ur hl i hi) h)
theorem Pq(j i:Nat)(nm own:List Str){y:Str}{py Sl:Pos}(hN:X.N.Nodup)(hg:TGc X nm scope own tg is bd)(hi:DE X (.Name x px) (Dm.eV i))(ht:∀cl C s H fp,DTs (aZ X nm scope own cl C s H fp) Qo t)(he:∀cl C s H fp,DE (aZ X nm scope own cl C s H fp) Qs f)
  (hc:X.calm=true:=by rfl) (hk:scope.kind=.function:=by rfl) (hS:m6 X.env.scope X.N nm scope=true:=by rfl) (hl:(is.all fun i=>decide (X.N.length<=i))=true:=by rfl) (hj:X.N[j]?=some y:=by rfl) (hy:Loc X.env.scope y:=by trivial)
  (hsw:swapsWith (.ListComp Qs [⟨tg,.Name x px,Qo,0⟩] scope pos) (some (.Name y py)) Sl.line X.env=pure true:=by rfl) (hs:∀y,foldedSetIterable (.Name x px) X.env y=pure y:=by intro _;rfl)
  (hf:X.fn y=true\/X.env.scope.names.lookup y=some .local:=by trivial):DS X (.Assign [.Name y py] (.ListComp Qs [⟨tg,.Name x px,Qo,0⟩] scope pos) Sl) (Dm.sA j (Dm.aM i own.length bd t f)):=by
 obtain⟨g,h1,h2⟩:=hg.ex;intro uV s σ H D I h;exact fS hN hj hy hc (dg.of hS hk) (i_M i hi) h1 ht he hsw hs hf uV s σ H D I (yM h2 (fun i hi=>by rw[I.len];exact ur hl i hi) (B4 h))
end
end Br
namespace Dm
noncomputable def gG:List Dat->List Dat->List Dat
 |x::xs,y::ys=>.tup [x,y]::gG xs ys
 |_,_=>[]
noncomputable def GG(a b:FE):FI:=fun ρ=>match eAs [a,b] ρ with
 | some (vs,ρ1)=>(match tks ρ1 vs with
  |some ([.lst xs,.lst ys],ρ2)=>some (gG xs ys,ρ2)
  |_=>none)
 |none=>none
end Dm
namespace Br
open PySem PySem.Spec PyProof.Rows L2
theorem ig{X:Cx}{uV:List (Addr×Obj)}{σ:L2.St}{H:Hp}{s:Shared}{h':Heap}{t':Nat}{fp:List Addr}(I:Inv X uV σ H s)(hf:∀b∈fp,mG X uV H b)
  (k:∀b u,b∉fp->s.heap.get? b=some u->h'.get? b=some u):Inv X uV σ H { s with heap:=h',toks:=t' }:=by
 have nf:∀b u,H b=some u->b∉fp:=fun b u e z=>by rw[(hf b z).1]at e;cases e
 have nL:X.env.locals∉fp:=fun z=>(hf _ z).2.1 rfl;refine I.step (g':=s.gens) (d':=s.drawn) (ch:=fp) (fun b hb=>?_) (fun b u _ _ hc e _=>k b u hc e) (fun b u _ _ hc e _=>⟨u.slots,k b u hc e⟩)
  (fun b u _ e n=>n) (fun b u hc e=>⟨u,k b u hc e⟩)
  (fun b xs q=>q) (fun b u xs q=>q) (fun _ _ _ _ q=>q) (fun m hm=>?_) (fun b u e=>?_) I.bare
 ·obtain⟨f0,f1,f2,f3,f4,f5⟩:=hf b hb;exact⟨f3,f1,f4,f5⟩
 ·obtain⟨o,es,ep,ho,r⟩:=hm;exact⟨o,es,ep,k _ o nL ho,r⟩
 ·refine(I.hok b u e).stay (fun c v hc q=>k c v ?_ q) (fun c q=>q) (fun _ _ _ q=>q) fun c xs q=>q;rcases hc with z | z
  ·rw[z];exact nf b u e
  ·exact nf c _ z
noncomputable def Itz(K:eg)(a b:Addr):It:=
 ⟨fun i H=>∃ xs ys x y,SqL K H a xs∧SqL K H b ys∧xs[i]?=some x∧ys[i]?=some y,
  fun i H r H'=>∃p x y,H p=none/\r=.ref p/\H'=upd H p (.tup [x,y])/\(∀xs,SqL K H a xs->xs[i]?=some x)/\∀ys,SqL K H b ys->ys[i]?=some y,
  fun i H=>∃xs ys,SqL K H a xs/\SqL K H b ys/\(xs.length<=i\/ys.length<=i)⟩
theorem fV{h:Heap}{a b:Addr}{o o':Obj}(ha:h.get? a=some o)(hb:h.get? b=some o')(n:o.cls≠o'.cls):a≠b:=fun z=>by subst z;rw[ha]at hb;cases hb;exact n rfl
structure rV(z TI TO i1 i2:Addr):Prop where
 TIz:TI≠z
 TOz:TO≠z
 i1z:i1≠z
 i2z:i2≠z
 TITO:TI≠TO
 TIi1:TI≠i1
 TIi2:TI≠i2
 TOi1:TO≠i1
 TOi2:TO≠i2
 i12:i1≠i2
def Cw(a b z TI TO i1 i2:Addr)(i:Nat)(h:Heap):Prop:=IsZip h z TI TO .none/\IsPair h TI (.ref i1) (.ref i2)/\(∃x y,IsPair h TO x y)/\h.IsListIter i1 a i/\h.IsListIter i2 b i
theorem ux{h:Heap}{a b z TI TO i1 i2:Addr}{i:Nat}{xs ys:Array Value}(F:rV z TI TO i1 i2)(st:Cw a b z TI TO i1 i2 i h)(ha:h.IsList a xs)(hb:h.IsList b ys):ZipApart z TI TO i1 i2 a b:=by
 obtain⟨s1,s2,⟨x,y,s3⟩,s4,s5⟩:=st;obtain⟨o4,e4,c4,_⟩:=s4;obtain⟨o5,e5,c5,_⟩:=s5;obtain⟨oa,ea,ca,_⟩:=ha;obtain⟨ob,eb,cb,_⟩:=hb;have d:∀{n m:String},n≠m->(VP n)≠(VP m):=fun q z=>q (by injection z);exact ⟨F.TIz,F.TOz,F.i1z,F.i2z,F.TITO,F.TIi1,F.TIi2,F.TOi1,F.TOi2,F.i12,
  fV ea s1 (by rw[ca];exact d (by decide)),fV ea s3 (by rw[ca];exact d (by decide)),fV ea e4 (by rw[ca,c4];exact d (by decide)),fV ea e5 (by rw[ca,c5];exact d (by decide)),
  fV eb s1 (by rw[cb];exact d (by decide)),fV eb s3 (by rw[cb];exact d (by decide)),fV eb e4 (by rw[cb,c4];exact d (by decide)),fV eb e5 (by rw[cb,c5];exact d (by decide))⟩
theorem Cy{P:Program}{w:World}{K:eg}{elts:List Expr}{x1}{tp:Pos}(a b z TI TO i1 i2:Addr)(F:rV z TI TO i1 i2):Turn P w K (.Tuple elts x1 tp) (Itz K a b) [z,TI,TO,i1,i2] z (Cw a b z TI TO i1 i2) where
 mem:=by simp
 obj:=fun i h st c hc=>by
  obtain⟨s1,s2,⟨x,y,s3⟩,⟨o4,e4,c4,d4⟩,⟨o5,e5,c5,d5⟩⟩:=st;simp only[Tp,Vc,or_false]at hc;rcases hc with rfl | rfl | rfl | rfl | rfl
  ·exact⟨_,s1,fun v q=>by have q':W3 _=Wq v:=q;cases q'⟩
  ·exact⟨_,s2,fun v q=>by have q':Data.seq _ _=Wq v:=q;cases q'⟩
  ·exact⟨_,s3,fun v q=>by have q':Data.seq _ _=Wq v:=q;cases q'⟩
  ·exact⟨o4,e4,fun v q=>by rw[d4]at q;cases q⟩
  ·exact⟨o5,e5,fun v q=>by rw[d5]at q;cases q⟩
 keep:=fun i h h' st k=>by obtain⟨s1,s2,⟨x,y,s3⟩,s4,s5⟩:=st;exact⟨k z (by simp) _ s1,k TI (by simp) _ s2,⟨x,y,k TO (by simp) _ s3⟩,s4.at fun o q=>k i1 (by simp) o q,s5.at fun o q=>k i2 (by simp) o q⟩
 item:=by
  intro X hP hw hK hc i uV s σ H E I hf st hg;subst hP hw hK;obtain⟨xs,ys,x,y,hq,hq',hx,hy⟩:=hg;obtain⟨its,rv,p,hz⟩:=I.list hq;obtain⟨its',rv',p',hz'⟩:=I.list hq';obtain⟨u,hu,ru⟩:=rv.get hx;obtain⟨u',hu',ru'⟩:=rv'.get hy;have D:=ux F st p.isList p'.isList;obtain⟨s1,s2,⟨o1,o2,s3⟩,s4,s5⟩:=st;have lt:∀{c o},s.heap.get? c=some o->c<s.heap.objs.size:=fun q=>Tn q;have l1:=lt s1;have l2:=lt s2;have l3:=lt s3;have l4:i1<s.heap.objs.size:=by obtain⟨_,q,_⟩:=s4;exact lt q
  have l5:i2<s.heap.objs.size:=by obtain⟨_,q,_⟩:=s5;exact lt q
  refine wpAny_pyNext_zip_item D s1 s2 s3 s4 s5 p.isList p'.isList (x:=u) (y:=u') (by simpa using hu) (by simpa using hu') fun h1 a1 a2 a3 a4 a5 a6 hk=>?_;refine⟨_,rfl,wpAny_letOwnedTupleGo_zip a1 fun h2 z2 hs2=>?_⟩;have ht2:h2.get? s.heap.objs.size=some { cls:=.type "tuple",data:=.seq #[u,u'] }:=(hs2.2 _ (UM l1)).trans a5;have k2:∀c o,c∉[z,TI,TO,i1,i2]->s.heap.get? c=some o->h2.get? c=some o:=fun c o hc q=>by simp only[Tp,Vc,or_false,not_or]at hc;exact(hs2.2 c hc.1).trans (hk c o hc.1 hc.2.2.1 hc.2.2.2.1 hc.2.2.2.2 q)
  have hn:H s.heap.objs.size=none:=I.hok.fresh (Nat.le_refl _);have I2:Inv X uV σ (upd H s.heap.objs.size (.tup [x,y])) { s with heap:=h2,toks:=s.toks }:=
   qy I hf k2 (Nat.le_refl _) ⟨by simp[sizeLine],[u,u'],.cons ru (.cons ru' .nil),_,ht2,rfl,_,rfl⟩
  refine⟨.ref s.heap.objs.size,_,I2,rfl,⟨_,x,y,hn,rfl,rfl,fun vs hv=>by rw[I.fO hv hq];exact hx,fun vs hv=>by rw[I.fO hv hq'];exact hy⟩,⟨z2,?_,⟨_,_,hs2.extBut _ _ D.TOz a2⟩,?_,?_⟩,fun c hc=>?_⟩
  ·exact hs2.extBut _ _ D.TIz (hk TI _ D.TIz D.TITO D.TIi1 D.TIi2 s2)
  ·exact a3.extBut hs2.extBut D.i1z
  ·exact a4.extBut hs2.extBut D.i2z
  ·have hc1:c≠s.heap.objs.size:=fun q=>by
    simp only[Tp,Vc,or_false]at hc;rcases hc with r | r | r | r | r
    ·subst r;rw[q]at l1;exact Uu _ l1
    ·subst r;rw[q]at l2;exact Uu _ l2
    ·subst r;rw[q]at l3;exact Uu _ l3
    ·subst r;rw[q]at l4;exact Uu _ l4
    ·subst r;rw[q]at l5;exact Uu _ l5
   rw[aj hc1];exact(hf c hc).1
 done:=by
  intro X hP hw hK hc i uV s σ H E I hf st hg;subst hP hw hK;obtain⟨xs,ys,hq,hq',hx⟩:=hg;obtain⟨its,rv,p,hz⟩:=I.list hq;obtain⟨its',rv',p',hz'⟩:=I.list hq';have hl:=rv.length;have hl':=rv'.length;have D:=ux F st p.isList p'.isList;obtain⟨s1,s2,⟨o1,o2,s3⟩,s4,s5⟩:=st;refine wpAny_pyNext_zip_end (I.ok.hd hc) D s1 s2 s3 s4 s5 p.isList p'.isList ?_ fun h' hk=>⟨rfl,ig (t':=s.toks) I hf fun c o hc q=>?_⟩
  ·rcases hx with hx | hx
   ·exact .inl (by simp;lia)
   ·exact .inr (by simp;lia)
  ·simp only[Tp,Vc,or_false,not_or]at hc;exact hk c o hc.1 hc.2.2.1 hc.2.2.2.1 hc.2.2.2.2 q
 self:=fun A i s Q E st h=>wpAny_pyIter_zip st.1 h
def Jb(K:eg)(ta:TA):TI:=fun σ H R=>ta σ H fun vs H1=>∃a b,vs=[.ref a,.ref b]/\(∃xs,SqL K H1 a xs)/\(∃ys,SqL K H1 b ys)/\R (Itz K a b) H1
section
variable{X:Cx}{l l':Expr}{ta:TA}{p pos:Pos}{elts:List Expr}{x1:Nat}{tp:Pos}
theorem LQ(hg:Gl X "zip")(hm:X.mg "zip" = none)(ha:PA X [l,l'] ta)(hs:starEach [l,l'] X.env=(false,eval l X.env)::starEach [l'] X.env:=by rfl)(hs2:(backTo pos (starEach [l'] X.env)).any (·.1)=false:=by rfl) :
  PI X (.Tuple elts x1 tp) (.Call (.Name "zip" p) [l,l'] [] pos) (Jb X.K ta):=by
 intro uV s σ H R I h;refine Call_ (cN I hg hm boot_zip (Ub (thn (ha pos uV s σ H _ I h) fun us s1 ⟨vs,H1,I1,r1,q1⟩=>?_) hs hs2));obtain⟨a,b,e,⟨xs,hq⟩,⟨ys,hq'⟩,q⟩:=q1;subst e;obtain⟨v1,v2,rfl,r,r'⟩:=vals2 r1;cases r;cases r';obtain⟨its,rv,pl,hz⟩:=I1.list hq;obtain⟨its',rv',pl',hz'⟩:=I1.list hq';refine call_zip_2 pl.isList pl'.isList fun h' e1 e2 e3 e4 e5 hsz k=>?_;have I2:Inv X uV σ H1 { s1 with heap:=h' }:=I1.kept (t':=s1.toks) k;have F:rV (s1.heap.objs.size+4) (s1.heap.objs.size+2) (s1.heap.objs.size+3) s1.heap.objs.size (s1.heap.objs.size+1):=by constructor<;>first | exact Tu (by lia) | exact UM (by lia)
 have T:=Cy (P:=X.prog) (w:=X.w) (K:=X.K) (elts:=elts) (x1:=x1) (tp:=tp) a b _ _ _ _ _ F;have st:Cw a b (s1.heap.objs.size+4) (s1.heap.objs.size+2) (s1.heap.objs.size+3) s1.heap.objs.size (s1.heap.objs.size+1) 0 h':=⟨e1,e2,⟨_,_,e3⟩,e4,e5⟩
 refine T.self X.A 0 { s1 with heap:=h' } _ X.xe st ?_;refine⟨s1.heap.objs.size+4,_,_,_,H1,rfl,I2,T,st,fun c hc=>?_,q⟩;have:s1.heap.objs.size<=c:=by simp only[Tp,Vc,or_false]at hc;rcases hc with r | r | r | r | r<;>(rw[r];first | exact Nat.le_add_right _ _ | exact Nat.le_refl _)
 exact I1.tP this (I1.hok.fresh this)
end
theorem yN:∀(xs ys:List Dat),(Dm.gG xs ys).length=min xs.length ys.length
 |[],_=>by simp[Dm.gG]
 |_::_,[]=>by simp[Dm.gG]
 |x::xs,y::ys=>by simp[Dm.gG,yN xs ys]
theorem zip_get:∀(xs ys:List Dat) (j:Nat) (d:Dat),(Dm.gG xs ys)[j]?=some d->∃x y,xs[j]?=some x/\ys[j]?=some y/\d=.tup [x,y]
 |[],_,_,_,h=>by simp[Dm.gG]at h
 |_::_,[],_,_,h=>by simp[Dm.gG]at h
 |x::xs,y::ys,0,d,h=>by cases h;exact⟨x,y,rfl,rfl,rfl⟩
 |x::xs,y::ys,j+1,d,h=>zip_get xs ys j d h
theorem LR{K:eg}{H0:Hp}{a b:Addr}{xs ys:List V}{ds es:List Dat}(hq:Rd H0 a (.lst xs))(rs:aD H0 xs ds)(hq':Rd H0 b (.lst ys))(rs':aD H0 ys es):JW (Itz K a b) H0 (Dm.gG ds es):=by
 intro H0' H s0 s1;have q:SqL K H a xs:=.inl (av.rd s1 (av.rd s0 hq));have q':SqL K H b ys:=.inl (av.rd s1 (av.rd s0 hq'));refine⟨fun i hi=>⟨xs,ys,q,q',?_⟩,fun i d e=>?_⟩
 ·rw[yN]at hi;have:=rs.length;have:=rs'.length
  lia
 obtain⟨x,y,hx,hy,rfl⟩:=zip_get ds es i d e;obtain⟨v,hv,rv⟩:=rs.get hx;obtain⟨v',hv',rv'⟩:=rs'.get hy;refine⟨⟨xs,ys,v,v',q,q',hv,hv'⟩,fun r H' z=>?_⟩;obtain⟨p,u,u',hn,rfl,rfl,z1,z2⟩:=z;have w1:=z1 xs q;have w2:=z2 ys q';rw[hv]at w1;rw[hv']at w2;cases w1;cases w2;have g:=aJ.Am (o:=HO.tup [v,v']) s1 hn;exact⟨_,g,.tup ak (.cons ((rv.mono s0).mono g.s0) (.cons ((rv'.mono s0).mono g.s0) .nil))⟩
section
variable{σ:L2.St}{H:Hp}{R:It->Hp->Prop}
theorem LS{K:eg}{f g:FE}(h:tDI (Dm.GG f g) σ H R):Jb K (tDA [f,g]) σ H R:=by
 obtain⟨H0,ρ,ys,ρ',st,e,k⟩:=h;unfold Dm.GG at e;split at e
 ·rename_i vs ρ1 e1;split at e
  ·rename_i xs zs ρ2 e2;cases e;refine⟨H0,ρ,vs,ρ1,st,e1,fun us H0' H' t r=>?_⟩;obtain⟨H1,t1,b1,r1⟩:=takes t (av.refl _) r e2;cases r1 with
   |cons q1 rr=>
    cases rr with
    |cons q2 rr=>
     cases rr;cases q1 with
     |lst q rs=>
      cases q2 with
      |lst q' rs'=>exact⟨_,_,rfl,⟨_,.inl (av.rd t1.st.same q)⟩,⟨_,.inl (av.rd t1.st.same q')⟩,k _ H1 H' t1 (LR q rs q' rs')⟩
  ·cases e
 ·cases e
end
section
variable{X:Cx}{a b:Expr}{fa fb:FE}{p pos:Pos}{elts:List Expr}{x1:Nat}{tp:Pos}
theorem Pr(hg:Gl X "zip")(hm:X.mg "zip" = none)(ha:DA X [a,b] [fa,fb])(hs:starEach [a,b] X.env=(false,eval a X.env)::starEach [b] X.env:=by rfl)(hs2:(backTo pos (starEach [b] X.env)).any (·.1)=false:=by rfl) :
  DI X (.Tuple elts x1 tp) (.Call (.Name "zip" p) [a,b] [] pos) (Dm.GG fa fb):=PI.weak (LQ hg hm ha hs hs2) fun _ _ _=>LS
end
end Br
namespace Dm
noncomputable def fnM(n m:Nat)(body:FS)(ds:List Dat):Option (RV×Dat):=if ds.length=n then (match ds with
 | d::r=>(match body (Cell.ow d::(r.map Cell.sh++Dk m .un)) with
  | some (.ret z ρ')=>(match ρ'[0]? with
   |some (Cell.ow d')=>some (z,d')
   |_=>none)
  | some (.nx ρ')=>(match ρ'[0]? with
   |some (Cell.ow d')=>some (.val .non,d')
   |_=>none)
  |_=>none)
 |[]=>none) else none
noncomputable def flat:Dat->Bool
 |.tup xs=>xs.all fun x=>!fH x
 |d=>!fH d
noncomputable def xj:Dat->Bool
 |.lst xs=>xs.all fun x=>!fH x
 |_=>false
noncomputable def eFm(f:List Dat->Option (RV×Dat))(j:Nat)(as:List FE):FE:=fun ρ=>match ρ[j]? with
 | some (.ow _)=>(match eAs as ρ with
  |none=>none
  | some (xs,ρ1)=>(match ρ1[j]? with
   | some (.ow d1)=>(match tks ρ1 xs with
    |none=>none
    | some (ds,ρ2)=>(match ρ2[j]? with
     | some (.ow d)=>(match f (d::ds) with
      |none=>none
      |some (v,d')=>if flat v.dat&&xj d' then some (v.bH,ρ1.set j (.ow d')) else some (v.bH,ρ2.set j (.ow d')))
     |_=>none))
   |_=>none))
 |_=>none
end Dm
namespace Br
open PySem PySem.Spec PyProof.Rows L2
section
variable{ρ:Dm.Env}{σ:L2.St}{a:Addr}
def spM(f:List Dat->Option (RV×Dat)):Sp:=fun vs H Q _=>∃H0 a us d ds z d',vs=V.ref a::us/\av H0 H/\H0 a=none/\Own H0 H a d/\aD H0 us ds/\f (d::ds)=some (z,d') /\
 ∀v H0' H',Stp (fun b=>b=a) H0 H H0' H'->av H0' H'->H0' a=none->Own H0' H' a d'->rN H H0' H' v z->Q v H'
theorem gx{n m:Nat}{body:FS}{vs:List V}{H:Hp}{Q:VK}{E:XK}(h:spM (Dm.fnM n m body) vs H Q E):vs.length=n:=by
 obtain⟨H0,a,us,d,ds,z,d',e,_,_,_,rs,ef,_⟩:=h;unfold Dm.fnM at ef;split at ef
 ·rename_i hl;rw[e,Uy,rs.length]
  simpa using hl
 ·cases ef
theorem ay.kK{H0 H:Hp}{j:Nat}{d:Dat}(st:ay H0 H σ ρ)(q:σ[j]?=some (some (V.ref a)))(no:¬ao σ ρ a)(n0:H0 a=none)(w:Own H0 H a d):ay H0 H σ (ρ.set j (.ow d)):=by
 have:=st.B3 (i:=j) no n0 w;have e:σ.set j (some (V.ref a))=σ:=by
  apply VW;intro i;by_cases h:j=i
  ·subst h;have hl:j<σ.length:=(Tj.mp q).1;rw[TR hl,q]
  ·rw[gc h]
 rw[e]at this;exact this
theorem ay.off{H0 H H0' H':Hp}(st:ay H0 H σ ρ)(s0:av H0 H0')(ss:av H0' H')(no:¬ao σ ρ a)(s1:∀b o,H b=some o->b≠a->H' b=some o)(s2:∀(i:Nat) (d:Dat) (b:Addr),ρ[i]?=some (Dm.Cell.ow d)->σ[i]?=some (some (V.ref b))->H0' b=none):ay H0' H' σ ρ where
 same:=ss
 len:=st.len
 sh:=fun i d e=>by obtain⟨v,q,r⟩:=st.sh i d e;exact⟨v,q,r.mono s0⟩
 ow:=fun i d e=>by obtain⟨b,q,n,w⟩:=st.ow i d e;obtain⟨o,z⟩:=w.some;have nb:b≠a:=fun y=>no ⟨i,d,e,y▸q⟩;exact⟨b,q,s2 i d b e q,w.mono s0 ((s1 b o z nb).trans z.symm)⟩
 dis:=st.dis
theorem e7{H0 H1:Hp}:∀{xs:List V} {ds:List Dat},aD H0 xs ds->(ds.all fun x=>!Dm.fH x)=true->aD H1 xs ds
 |_,_,.nil,_=>.nil
 |_,_,.cons r rs,h=>by rw[WD,TN]at h;exact .cons (Rep.plain r (by simpa using h.1)) (e7 rs h.2)
end
section
variable{σ:L2.St}{H:Hp}{Q:VK}
theorem GH{f:List Dat->Option (RV×Dat)}{j:Nat}{fs:List FE}{E:XK}(h:tD (Dm.eFm f j fs) σ H Q):qe (spM f) [] E (tDA (Dm.eV j::fs)) σ H Q:=by
 obtain⟨H0,ρ,x,ρ',st,e,k⟩:=h;unfold Dm.eFm at e;split at e
 case h_2=>cases e
 rename_i d0 h0;split at e
 ·cases e
 rename_i xs ρ1 e1;split at e
 case h_2=>cases e
 rename_i d1 h1;split at e
 ·cases e
 rename_i ds ρ2 e2;split at e
 case h_2=>cases e
 rename_i d h2;split at e
 ·cases e
 rename_i z d' fz;have ea:Dm.eAs (Dm.eV j::fs) ρ=some (.slot j::xs,ρ1):=by unfold Dm.eAs;rw[show Dm.eV j ρ=some (.slot j,ρ) from by unfold Dm.eV;rw[h0]];dsimp only;rw[e1]
 refine⟨H0,ρ,.slot j::xs,ρ1,st,ea,fun vs H1 Hb t1 r1=>?_⟩;dsimp only;rw[Uc];cases r1 with
 |cons r0 rr=>
  obtain⟨H2,t2,b2,r2⟩:=takes t1 (av.refl _) rr e2;obtain⟨a,qa,na,wa⟩:=t2.st.ow j d h2;obtain⟨q0,_⟩:=r0;rw[qa]at q0;cases q0;obtain⟨a1,qa1,na1,wa1⟩:=t1.st.ow j d1 h1;rw[qa]at qa1;cases qa1;obtain⟨oa,ha⟩:=wa.some;have hl2:j<ρ2.length:=(Tj.mp h2).1;have hl1:j<ρ1.length:=(Tj.mp h1).1;have oa0:ao σ ρ a:=t1.own a ⟨j,d1,h1,qa⟩;refine⟨H2,a,_,d,ds,z,d',rfl,t2.st.same,na,wa,r2,fz,fun v H3 Hd s3 ss n3 w3 r3=>?_⟩;have no2:¬ao σ (ρ2.set j .un) a:=fun y=>by obtain⟨i,d4,hi,y1,y2⟩:=cO y;exact hi (t2.st.dis i j d4 d a y1 h2 y2 qa)
  have no1:¬ao σ (ρ1.set j .un) a:=fun y=>by obtain⟨i,d4,hi,y1,y2⟩:=cO y;exact hi (t1.st.dis i j d4 d1 a y1 h1 y2 qa)
  split at e
  ·rename_i fl;cases e;rw[TN]at fl;obtain⟨f1,f2⟩:=fl;have wp:∀H',Own H' Hd a d':=fun H'=>by
    cases d' with
    |lst ys=>obtain⟨us,y1,y2⟩:=w3;exact⟨us,y1,e7 y2 f2⟩
    |_=>cases f2
   have HB:∀H1':Hp,av H1 H1'->av H1' Hd->(∀b o,H1' b=some o->H1 b=some o\/((∃us,o=.tup us)/\H3 b=some o))->fQ H H1' Hd σ (ρ1.set j (.ow d')) v z.bH->Q v Hd:=fun H1' m1 m2 m3 rv=>by
    have hd3:∀b,H1' b≠none->b≠a:=fun b hb y=>by
     subst y;cases y2:H1' b with
     |none=>exact hb y2
     |some o=>
      rcases m3 b o y2 with y3 | ⟨_,y3⟩
      ·rw[na1]at y3;cases y3
      ·rw[n3]at y3;cases y3
    have n1':H1' a=none:=by
     cases y:H1' a with
     |none=>rfl
     |some o=>exact absurd rfl (hd3 a (by rw[y];exact fun q=>nomatch q))
    have sm:ay H1' Hd σ (ρ1.set j .un):=by
     refine(t1.st.mask j).off m1 m2 no1 (fun b o y nb=>s3.s1 b o y nb) fun i d4 b y1 y2=>?_;obtain⟨b',q',nb',w'⟩:=(t1.st.mask j).ow i d4 y1;rw[y2]at q';cases q';cases y:H1' b with
     |none=>rfl
     |some o=>
      rcases m3 b o y with y3 | ⟨⟨us,y4⟩,y3⟩
      ·rw[nb']at y3;cases y3
      ·subst y4;have nb:b≠a:=hd3 b (by rw[y];exact fun q=>nomatch q);cases d4 with
       |lst _=>obtain⟨ws,z1,_⟩:=w';have z2:=s3.s1 b _ z1 nb;rw[ss _ _ y3]at z2;cases z2
       |dct _ _=>obtain⟨ws,z1,_⟩:=w';have z2:=s3.s1 b _ z1 nb;rw[ss _ _ y3]at z2;cases z2
       |_=>exact TF w'
    have sf:ay H1' Hd σ (ρ1.set j (.ow d')):=by have:=sm.kK qa no1 n1' (wp H1');rw[Xe]at this;exact this
    refine k v H1' Hd ⟨sf,⟨t1.stp.s0.trans m1,fun b o y nb=>?_,fun b o y=>?_,fun b o y=>?_⟩,fun b y=>?_,fun i y=>?_⟩ rv
    ·have y1:=t1.stp.s1 b o y nb;exact s3.s1 b o y1 fun q=>nb (by rw[q];exact oa0)
    ·rcases m3 b o y with y3 | ⟨_,y3⟩
     ·exact t1.stp.s2 b o y3
     ·rcases s3.s2 b o y3 with y4 | y4 | y4
      ·exact .inl (t1.stp.gone y4)
      ·exact t2.stp.s2 b o y4
      ·subst y4;rw[n3]at y3;cases y3
    ·obtain⟨o',y1⟩:=t1.stp.s3 b o y;exact s3.s3 b o' y1
    ·obtain⟨i,d4,y1,y2⟩:=y;by_cases hi:j=i
     ·subst hi;rw[qa]at y2;cases y2;exact oa0
     ·rw[gc hi]at y1;exact t1.own b ⟨i,d4,y1,y2⟩
    ·trivial
   have m0:av H1 Hd:=fun b o y=>s3.s1 b o (t1.st.same _ _ y) fun q=>by rw[q,na1]at y;cases y
   cases z with
   |new d4=>
    obtain⟨_,_,_,_,w⟩:=r3;cases d4 with
    |lst _=>cases f1
    |dct _ _=>cases f1
    |_=>exact TF w
   |val d4=>
    have r3':Rep H3 v d4:=r3;cases d4 with
    |tup es=>
     cases r3' with
     |tup q rs=>
      rename_i a2 us;have rp:aD H1 us es:=e7 rs f1;refine HB (upd H1 a2 (.tup us)) (fun b o y=>?_) (fun b o y=>?_) (fun b o y=>?_) (.tup ak (e7 rs f1))
      ·by_cases hb:b=a2
       ·subst hb;have:=s3.s0 _ _ (b2 _ _ y);rw[q]at this;rw[ak,this]
       ·rw[aj hb];exact y
      ·by_cases hb:b=a2
       ·subst hb;rw[ak]at y;cases y;exact ss _ _ q
       ·rw[aj hb]at y;exact m0 _ _ y
      ·by_cases hb:b=a2
       ·subst hb;rw[ak]at y;cases y;exact .inr ⟨⟨us,rfl⟩,q⟩
       ·rw[aj hb]at y;exact .inl y
    |lst _=>cases f1
    |dct _ _=>cases f1
    |exc _=>cases f1
    |fn _=>exact HB H1 (av.refl _) m0 (fun b o y=>.inl y) (Rep.plain r3' rfl)
    |non=>exact HB H1 (av.refl _) m0 (fun b o y=>.inl y) (Rep.plain r3' rfl)
    |bl _=>exact HB H1 (av.refl _) m0 (fun b o y=>.inl y) (Rep.plain r3' rfl)
    |int _=>exact HB H1 (av.refl _) m0 (fun b o y=>.inl y) (Rep.plain r3' rfl)
    |str _=>exact HB H1 (av.refl _) m0 (fun b o y=>.inl y) (Rep.plain r3' rfl)
  ·cases e;have sm:ay H3 Hd σ (ρ2.set j .un):=by
    refine(t2.st.mask j).off s3.s0 ss no2 (fun b o y nb=>s3.s1 b o y nb) fun i d4 b y1 y2=>?_;obtain⟨b',q',nb',w'⟩:=(t2.st.mask j).ow i d4 y1;rw[y2]at q';cases q';obtain⟨ob,hob⟩:=w'.some;cases y:H3 b with
    |none=>rfl
    |some o=>
     rcases s3.s2 b o y with y3 | y3 | y3
     ·rw[hob]at y3;cases y3
     ·rw[nb']at y3;cases y3
     ·exact absurd ⟨i,d4,y1,y3▸y2⟩ no2
   have sf:ay H3 Hd σ (ρ2.set j (.ow d')):=by have:=sm.kK qa no2 n3 w3;rw[Xe]at this;exact this
   have of:∀b,ao σ (ρ2.set j (.ow d')) b->b=a\/ao σ ρ2 b:=fun b ⟨i,d4,y1,y2⟩=>by
    by_cases hi:j=i
    ·subst hi;rw[qa]at y2;cases y2;exact .inl rfl
    ·rw[gc hi]at y1;exact .inr ⟨i,d4,y1,y2⟩
   refine k v H3 Hd ⟨sf,t2.stp.trans s3 (fun b y=>.inl (y▸oa0)),fun b y=>?_,fun i y=>?_⟩ ?_
   ·rcases of b y with y | y
    ·exact y▸oa0
    ·exact t2.own b y
   ·trivial
   ·cases z with
    |val d4=>exact r3
    |new d4=>
     obtain⟨b,y0,y1,y2,y3⟩:=r3;refine⟨b,y0,t2.stp.gone y1,fun y=>?_,y2,y3⟩;rcases of b y with y | y
     ·subst y;rw[ha]at y1;cases y1
     ·exact t2.st.bZ y1 y
end
theorem bW{X:Cx}{es:List Expr}{p pos px:Pos}{k:Nat}{F:Addr}{fd:FuncData}{ps:List Str}{g:List Dat->Option (RV×Dat)}{x y:Str}{j:Nat}{fs:List FE}(G:aK X.prog X.w X.K X.mg X.base CX0 k F fd ps (spM g))(hr:aT k X.A)(hg:Gl X x)(hm:X.mg x=some (.ref F))(hk:Ul X.K (.ref F)=true)(hb:Binds X.K fd ps [])
  (ha:DA X (.Name y px::es) (Dm.eV j::fs)) (MO:(x == ("__debug__" : Str))=false:=by decide) (he:starEach (.Name y px::es) X.env=(false,eval (.Name y px) X.env)::starEach es X.env:=by rfl) (Dy:(backTo pos (starEach es X.env)).any (·.1)=false:=by rfl) :
  DE X (.Call (.Name x p) (.Name y px::es) [] pos) (Dm.eFm g j fs):=PE.weak (gw G hr hg hm hk hb .nil (qm (X:=X)) ha MO he Dy) fun _ _ _=>GH
theorem uy{N:List Str}{n m:Nat}{body:FS}{vs:List V}{H:Hp}{Q:VK}{E:XK}(hm:N.length=n+m)(h:spM (Dm.fnM n m body) vs H Q E) :
  tDS body { nx:=fun _ H'=>Q .non H',rt:=Q } (start N vs) H:=by
 have hvn:=gx h;obtain⟨H0,a,us,d,ds,z,d',e,s,na,wa,rs,ef,k⟩:=h;subst e;have hl:=rs.length;rw[Uy]at hvn;have e0:(start N (V.ref a::us))[0]?=some (some (V.ref a)):=rfl;have get:∀{i:Nat} {c:Dm.Cell},(Dm.Cell.ow d::(ds.map Dm.Cell.sh++Dk m .un))[i]?=some c->(i=0/\c=.ow d)\/(∃i' d4,i=i'+1/\ds[i']?=some d4/\c=.sh d4)\/c=.un:=fun {i c} y=>by
  cases i with
  |zero=>cases y;exact .inl ⟨rfl,rfl⟩
  |succ i=>
   rw[Vv]at y;by_cases hi:i<ds.length
   ·rw[Tr (by simpa using hi),TM,Tv hi]at y;cases y;exact .inr (.inl ⟨i,ds[i],rfl,Tv hi,rfl⟩)
   ·rw[Tt (by simpa using hi),Ui]at y;split at y
    ·cases y;exact .inr (.inr rfl)
    ·cases y
 have ow0:∀{i:Nat} {d4:Dat},(Dm.Cell.ow d::(ds.map Dm.Cell.sh++Dk m .un))[i]?=some (.ow d4)->i=0/\d4=d:=fun {i d4} y=>by
  rcases get y with⟨y1,y2⟩ | ⟨_,_,_,_,y2⟩ | y2
  ·cases y2;exact⟨y1,rfl⟩
  ·cases y2
  ·cases y2
 have oa:∀b,ao (start N (V.ref a::us)) (Dm.Cell.ow d::(ds.map Dm.Cell.sh++Dk m .un)) b->b=a:=fun b ⟨i,d4,y1,y2⟩=>by obtain⟨y3,_⟩:=ow0 y1;subst y3;rw[e0]at y2;cases y2;rfl
 have st:ay H0 H (start N (V.ref a::us)) (Dm.Cell.ow d::(ds.map Dm.Cell.sh++Dk m .un)):=by
  refine⟨s,?_,fun i d4 y=>?_,fun i d4 y=>?_,fun i i' d4 d5 b y1 y2 _ _=>(ow0 y1).1.trans (ow0 y2).1.symm⟩
  ·unfold L2.start;simp only[Tz,Dp,Vi,Uy];omega
  ·rcases get y with⟨_,y2⟩ | ⟨i',d5,y1,y2,y3⟩ | y2
   ·cases y2
   ·cases y3;subst y1;obtain⟨v,hv,r⟩:=rs.get y2;refine⟨v,?_,r⟩;have hi:i'<us.length:=(Tj.mp hv).1;unfold L2.start;rw[Tr (by simp;omega),TM,Vv,hv];rfl
   ·cases y2
  ·obtain⟨y1,y2⟩:=ow0 y;subst y1 y2;exact⟨a,e0,na,wa⟩
 have HB:∀{σ':L2.St} {ρ':Dm.Env} {H0' H':Hp},SSt (start N (V.ref a::us)) (Dm.Cell.ow d::(ds.map Dm.Cell.sh++Dk m .un)) H0 H σ' ρ' H0' H'->ρ'[0]?=some (.ow d')->Stp (fun b=>b=a) H0 H H0' H'/\H0' a=none/\Own H0' H' a d'/\ao σ' ρ' a:=fun {σ' ρ' H0' H'} t y=>by obtain⟨a',q',n',w'⟩:=t.st.ow 0 d' y;have fx:=t.fx;rw[e0,q']at fx;cases fx;exact⟨t.stp.wide fun b z=>oa b z,n',w',0,d',y,q'⟩
 unfold Dm.fnM at ef;split at ef
 case isFalse=>cases ef
 dsimp only at ef;split at ef
 ·rename_i z' ρ' e1;split at ef
  case h_2=>cases ef
  rename_i d4 y;cases ef;refine⟨H0,_,_,st,e1,fun σ' v H0' H' t r no=>?_⟩;obtain⟨f1,f2,f3,f4⟩:=HB t y;refine k v H0' H' f1 t.st.same f2 f3 ?_;cases z with
  |val d5=>exact r
  |new d5=>
   obtain⟨b,y0,y1,y2,y3⟩:=r;refine⟨b,y0,?_,y2,y3⟩;rcases y1 with y1 | y1
   ·exact y1
   ·exact absurd f4 (oa b y1▸no d5 b rfl y0)
 ·rename_i ρ' e1;split at ef
  case h_2=>cases ef
  rename_i d4 y;cases ef;refine⟨H0,_,_,st,e1,fun σ' H0' H' t=>?_⟩;obtain⟨f1,f2,f3,f4⟩:=HB t y;exact k _ H0' H' f1 t.st.same f2 f3 .non
 ·cases ef
end Br
namespace Dm
noncomputable def jR:List Int->List Dat->Int->Option Dat
 |k::ks,v::vs,i=>if k=i then some v else jR ks vs i
 |_,_,_=>none
noncomputable def yO:List Int->List Dat->Int->Dat->List Dat
 |k::ks,v::vs,i,d=>(if k=i then d else v)::yO ks vs i d
 |_,_,_,_=>[]
noncomputable def Cz(ks:List Int)(i:Int):List Int:=if (ks.any fun k=>decide (k=i))=true then ks else ks++[i]
noncomputable def CA(ks:List Int)(vs:List Dat)(i:Int)(d:Dat):List Dat:=if (ks.any fun k=>decide (k=i))=true then yO ks vs i d else vs++[d]
noncomputable def eDn:FE:=fun ρ=>some (.new (.dct [] []),ρ)
noncomputable def gDx:Dat->Dat->Option RV
 |.dct ks vs,.int i=>(jR ks vs i).map .val
 |_,_=>none
noncomputable def AD:Dat->Dat->Option RV
 |.int i,.dct ks vs=>vB (jR ks vs i).isSome
 |_,_=>none
noncomputable def uz:Dat->Dat->Option RV
 |.int i,.dct ks vs=>vB (!(jR ks vs i).isSome)
 |_,_=>none
noncomputable def uA(a b:FE):FE:=fun ρ=>match a ρ with
 |none=>none
 |some (x,ρ1)=>match pk ρ1 x with
  | some (.dct _ _)=>(match b ρ1 with
   |none=>none
   |some (y,ρ2)=>match pk ρ2 x with
    | some (.dct ks vs)=>(match pk ρ2 y with
     |some (.int i)=>some (.val ((jR ks vs i).getD .non),ρ2)
     |_=>none)
    |_=>none)
  |_=>none
noncomputable def eD1(a b:FE):FE:=fun ρ=>match a ρ with
 | some (.val (.int i),ρ1)=>(match b ρ1 with
  |none=>none
  |some (x,ρ2)=>match tk ρ2 x with
   |none=>none
   |some (d,ρ3)=>some (.new (.dct [i] [d]),ρ3))
 |_=>none
noncomputable def m9(i:Nat)(j e:FE):FS:=fun ρ=>match e ρ with
 |none=>none
 |some (x,ρ1)=>match tk ρ1 x with
  |none=>none
  |some (d,ρ2)=>match ρ2[i]? with
   | some (.ow _)=>(match j ρ2 with
    | some (.val (.int k),ρ3)=>(match ρ3[i]? with
     |some (.ow (.dct ks vs))=>if ks.length<SZ then some (.nx (ρ3.set i (.ow (.dct (Cz ks k) (CA ks vs k d))))) else none
     |_=>none)
    |_=>none)
   |_=>none
end Dm
namespace Br
open PySem PySem.Spec PyProof.Rows L2
section
variable{ds:List Dat}{ks:List Int}{H0:Hp}{d:Dat}{v:V}
theorem dM{H0 H:Hp}(s:av H0 H)(r:kG H0 H v (.dct ks ds)):∃a kvs,v=.ref a/\H a=some (.dK kvs)/\kvs.map (·.1)=ks.map T4/\aD H0 (kvs.map (·.2)) ds:=by
 rcases r with r | ⟨a,e,kvs,q,ek,rs⟩
 ·cases r with
  |dct q ek rs=>exact⟨_,_,rfl,s _ _ q,ek,rs⟩
 ·exact⟨a,kvs,e,q,ek,rs⟩
theorem rW{a b:Int}(h:¬a=b):¬(T4 a:Key)=T4 b:=fun q=>h (T4.inj q)
theorem gy(i:Int):∀{kvs:List (Key×V)} {ks:List Int} {ds:List Dat},kvs.map (·.1)=ks.map T4->aD H0 (kvs.map (·.2)) ds ->
  (∃d v,Dm.jR ks ds i=some d/\gZ kvs (T4 i)=some v/\Rep H0 v d)\/(Dm.jR ks ds i=none/\gZ kvs (T4 i)=none)
 |[],[],_,_,r=>by cases r;exact .inr ⟨rfl,rfl⟩
 |[],_::_,_,e,_=>by cases e
 |_::_,[],_,e,_=>by cases e
 |(k0,v0)::kvs,k::ks,_,e,r=>by
  rw[PU]at r;cases r with
  |cons r0 rr=>
   rw[PU,PU]at e;injection e with e1 e2
   have e1:k0=T4 k:=e1;subst e1;unfold Dm.jR;by_cases h:k=i
   ·subst h;rw[if_pos rfl];exact .inl ⟨_,v0,rfl,jF rfl,r0⟩
   ·rw[if_neg h,jG (rW h)];exact gy i e2 rr
theorem CB(i:Int):∀{kvs:List (Key×V)} {ks:List Int},kvs.map (·.1)=ks.map T4->(kvs.any fun kv=>decide (kv.1=T4 i))=(ks.any fun k=>decide (k=i))
 |[],[],_=>rfl
 |[],_::_,e=>by cases e
 |_::_,[],e=>by cases e
 |(k0,v0)::kvs,k::ks,e=>by
  rw[PU,PU]at e;injection e with e1 e2
  have e1:k0=T4 k:=e1;subst e1;rw[Vw,Vw,CB i e2]
  congr 1
  by_cases h:k=i
  ·subst h;simp
  ·have:=rW h;simp[h,this]
theorem yP(i:Int)(rv:Rep H0 v d):∀{kvs:List (Key×V)} {ks:List Int} {ds:List Dat},kvs.map (·.1)=ks.map T4->aD H0 (kvs.map (·.2)) ds ->
  ((kvs.map fun kv=>if kv.1=T4 i then (kv.1,v) else kv).map (·.1)=ks.map T4)/\aD H0 ((kvs.map fun kv=>if kv.1=T4 i then (kv.1,v) else kv).map (·.2)) (Dm.yO ks ds i d)
 |[],[],_,_,r=>by cases r;exact⟨rfl,.nil⟩
 |[],_::_,_,e,_=>by cases e
 |_::_,[],_,e,_=>by cases e
 |(k0,v0)::kvs,k::ks,_,e,r=>by
  rw[PU]at r;cases r with
  |cons r0 rr=>
   rw[PU,PU]at e;injection e with e1 e2
   have e1:k0=T4 k:=e1;subst e1;obtain⟨i1,i2⟩:=yP i rv e2 rr;unfold Dm.yO;by_cases h:k=i
   ·subst h;rw[if_pos rfl,PU,PU,PU,i1];simp only[if_true];exact⟨trivial,.cons rv i2⟩
   ·rw[if_neg h,PU,PU,PU,i1];have:=rW h;simp only[this,if_false];exact⟨trivial,.cons r0 i2⟩
theorem LU(i:Int)(rv:Rep H0 v d){kvs:List (Key×V)}(e:kvs.map (·.1)=ks.map T4)(r:aD H0 (kvs.map (·.2)) ds) :
  (putK kvs (T4 i) v).map (·.1)=(Dm.Cz ks i).map T4/\aD H0 ((putK kvs (T4 i) v).map (·.2)) (Dm.CA ks ds i d):=by
 have ha:=CB i e;unfold putK Dm.Cz Dm.CA;rw[ha];cases hb:(ks.any fun k=>decide (k=i)) with
 |true=>simp only[if_true];exact yP i rv e r
 |false=>simp only[UN,if_false];rw[Uw,Uw,Uw,e];exact⟨rfl,r.append (.cons rv .nil)⟩
theorem Pu:OpD (fun x y H Q=>∃a v,x=.ref a/\fL H a y (some v)/\Q v H) Dm.gDx:=by
 intro H0 H x y dx dy z Q s rx ry e k;unfold Dm.gDx at e;split at e
 ·rename_i ks vs i;cases aC ry;obtain⟨a,kvs,rfl,qa,ek,rs⟩:=dM s rx;rcases gy i ek rs with⟨d,v,l1,l2,r⟩ | ⟨l1,_⟩
  ·rw[l1]at e;cases e;refine⟨a,v,rfl,?_,k _ H0 H (aJ.refl s) r⟩;have:=fL.k (k:=T4 i) qa;rw[l2]at this;exact this
  ·rw[l1]at e;cases e
 ·cases e
theorem LV:OpD (fun y x H Q=>∃a o,x=.ref a/\fL H a y o/\Q (.bl o.isSome) H) Dm.AD:=by
 intro H0 H x y dx dy z Q s rx ry e k;unfold Dm.AD at e;split at e
 ·rename_i i ks vs;cases e;cases aC rx;obtain⟨a,kvs,rfl,qa,ek,rs⟩:=dM s ry;refine⟨a,_,rfl,fL.k (k:=T4 i) qa,k _ H0 H (aJ.refl s) ?_⟩;rcases gy i ek rs with⟨d,v,l1,l2,r⟩ | ⟨l1,l2⟩
  ·rw[l1,l2];exact .bl _
  ·rw[l1,l2];exact .bl _
 ·cases e
theorem GI:OpD (fun y x H Q=>∃a o,x=.ref a/\fL H a y o/\Q (.bl (!o.isSome)) H) Dm.uz:=by
 intro H0 H x y dx dy z Q s rx ry e k;unfold Dm.uz at e;split at e
 ·rename_i i ks vs;cases e;cases aC rx;obtain⟨a,kvs,rfl,qa,ek,rs⟩:=dM s ry;refine⟨a,_,rfl,fL.k (k:=T4 i) qa,k _ H0 H (aJ.refl s) ?_⟩;rcases gy i ek rs with⟨d,v,l1,l2,r⟩ | ⟨l1,l2⟩
  ·rw[l1,l2];exact .bl _
  ·rw[l1,l2];exact .bl _
 ·cases e
end
section
variable{σ:L2.St}{H:Hp}{Q:VK}{D:Ends}
theorem R9(h:tD Dm.eDn σ H Q):BP σ H Q:=by obtain⟨H0,ρ,x,ρ',st,e,k⟩:=h;cases e;intro p hp;have g:=aJ.jJ (o:=HO.dK []) st.same hp;exact k _ _ _ (.grow st g) ⟨p,rfl,hp,st.bZ hp,st.same.free hp,[],ak,rfl,.nil⟩
theorem LW{fo fi:FE}(h:tD (Dm.uA fo fi) σ H Q):BU (tD fo) (tD fi) σ H Q:=by
 obtain⟨H0,ρ,x,ρ',st,e,k⟩:=h;unfold Dm.uA at e;split at e
 ·cases e
 rename_i x1 ρ1 e1;split at e
 case h_2=>cases e
 rename_i ks0 vs0 p0;split at e
 ·cases e
 rename_i y1 ρ2 e2;split at e
 case h_2=>cases e
 rename_i ks vs p1;split at e
 case h_2=>cases e
 rename_i i p2;cases e;refine⟨H0,ρ,x1,ρ1,st,e1,fun v H1 Hb t1 r1=>?_⟩;obtain⟨a,LX,rfl,qa0,_,_⟩:=dM t1.st.same (r1.look t1.st p0);refine⟨a,rfl,.inl ⟨LX,.inl qa0⟩,H1,ρ1,y1,_,t1.st,e2,fun u H2 Hc t2 r2=>?_⟩;have hu:=aC (r2.look t2.st p2);subst hu;obtain⟨a',kvs,ea,qa,ek,rs⟩:=dM t2.st.same ((r1.mono t2).look t2.st p1);cases ea;refine⟨_,fL.k (k:=T4 i) qa,k _ H2 Hc (t1.trans t2) ?_⟩;rcases gy i ek rs with⟨d,w,l1,l2,r⟩ | ⟨l1,l2⟩
 ·rw[l1,l2];exact r
 ·rw[l1,l2];exact Rep.non
theorem LY{i:Nat}{j f:FE}(h:tDS (Dm.m9 i j f) D σ H):IT (rA i) (tD j) (tD f) D σ H:=by
 obtain⟨H0,ρ,o,st,e,k⟩:=h;unfold Dm.m9 at e;split at e
 ·cases e
 rename_i x ρ1 e1;split at e
 ·cases e
 rename_i d ρ2 e2;split at e
 case h_2=>cases e
 rename_i d0 h2;split at e
 ·rename_i m ρ3 e3;split at e
  ·rename_i ks vs h3;split at e
   case isFalse=>cases e
   rename_i hz;cases e;refine⟨H0,ρ,_,ρ1,st,e1,fun v H0' H' t r=>?_⟩;obtain⟨H1,t1,b1,r1,_,_⟩:=take1 t (av.refl _) r e2;obtain⟨a0,q0,_,_⟩:=t1.st.ow i _ h2;refine⟨_,q0,H1,ρ2,_,ρ3,t1.st,e3,fun u H2 Hc t2 r2=>?_⟩;obtain⟨a,q,n,w⟩:=t2.st.ow i _ h3;rw[q0]at q;cases q;obtain⟨kvs,y,ek,rs⟩:=w;have hu:=Rep.isInt r2;subst hu;obtain⟨p1,p2⟩:=LU m (r1.mono t2.stp.s0) ek rs;have xM:kvs.length=ks.length:=by
    have:=congrArg List.length ek
    simpa using this
   refine⟨a0,_,rfl,BO.k (k:=T4 m) y (by rw[xM];exact Tw hz (by decide)),?_⟩;have ow:ao σ ρ3 a0:=⟨i,_,h3,q0⟩
   have tt:=t1.trans t2;exact k σ H2 _ ⟨t2.st.write h3 q0 ⟨_,ak,p1,p2⟩,tt.stp.trans (Stp.write ow) fun b z=>.inl (tt.own b z),fun b z=>.inl (tt.own b (cz h3 z)),rfl⟩
  ·cases e
 ·cases e
theorem R_{fa fb:FE}(h:tD (Dm.eD1 fa fb) σ H Q):IU [(tD fa,tD fb)] σ H Q:=by
 obtain⟨H0,ρ,x,ρ',st,e,k⟩:=h;unfold Dm.eD1 at e;split at e
 ·rename_i i ρ1 e1;split at e
  ·cases e
  rename_i y ρ2 e2;split at e
  ·cases e
  rename_i d ρ3 e3;cases e;intro p hp;have n0:H0 p=none:=st.same.free hp;have no:¬ao σ ρ p:=st.bZ hp;refine⟨H0,ρ,_,ρ1,st.aside n0 no,e1,fun u H1 Hb t1 r1=>⟨H1,ρ1,y,ρ2,t1.st,e2,fun v H2 Hc t2 r2=>?_⟩⟩;have tt:=t1.trans t2;obtain⟨H3,t3,b3,r3,_,_⟩:=take1 tt (av.refl _) (r2.early fun a n=>t1.stp.gone n) e3;obtain⟨hp3,n3,no3⟩:=t3.dH (o:=HO.dK []) ak n0 no;have hu:=Rep.isInt r1;subst hu;refine⟨hp3,[(T4 i,v)],rfl,(by simp),?_⟩;have em:kD [] [((T4 i:Key),v)]=[(T4 i,v)]:=rfl;rw[em];refine k _ H3 _ ⟨t3.st.aside n3 no3,⟨t3.stp.s0,fun a o y nb=>?_,fun a o y=>?_,fun a o y=>?_⟩,t3.own,t3.dfn⟩ ⟨p,rfl,hp,no3,n3,_,ak,rfl,.cons r3 .nil⟩
  ·have ne:a≠p:=fun q=>by rw[q,hp]at y;cases y
   rw[aj ne];exact t3.stp.s1 a o (by rw[aj ne];exact y) nb
  ·rcases t3.stp.s2 a o y with y1 | y1 | y1
   ·by_cases ne:a=p
    ·subst ne;rw[n3]at y;cases y
    ·rw[aj ne]at y1;exact .inl y1
   ·exact .inr (.inl y1)
   ·exact .inr (.inr y1)
  ·have ne:a≠p:=fun q=>by rw[q,hp]at y;cases y
   rw[aj ne];exact t3.stp.s3 a o (by rw[aj ne];exact y)
 ·cases e
end
theorem u1{k:Nat}{A:Around}(hr:aT k A):A.units+1<cLine:=Ve (Nat.add_le_add_left (by decide) _) hr.units
section
variable{X:Cx}{a b e:Expr}{fa fb f:FE}{pos:Pos}{k:Nat}
theorem LZ:DE X (.Dict [] [] pos) Dm.eDn:=PE.weak BQ fun _ _ _=>R9
theorem Sa(ha:DE X a fa)(hb:DE X b fb):DE X (.Dict [some a] [b] pos) (Dm.eD1 fa fb):=PE.weak (F_ (BR ha hb F9) rfl rfl (by simp) (by simp)) fun _ _ _=>R_
theorem CC(hr:aT k X.A)(ha:DE X a fa)(hb:DE X b fb)(hs:Lf b:=by intro _ _;rfl):DE X (.Subscript a b pos) (Dm.e2 Dm.gDx fa fb):=PE.weak (F7 (u1 hr) ha hb hs) fun _ _ _=>wU Pu
theorem CD(hr:aT k X.A)(ha:DE X a fa)(hb:DE X b fb)(hm:behindInMarks .In b=false:=by rfl):DT X (.Compare a [.In] [b] pos) (Dm.tV (Dm.e2 Dm.AD fa fb)):=PT.weak (Bl (Lg (u1 hr) ha hb) hm) fun σ H Q h=>wU LV (rP h)
theorem CF(hr:aT k X.A)(ha:DE X a fa)(hb:DE X b fb)(hm:behindInMarks .NotIn b=false:=by rfl):DT X (.Compare a [.NotIn] [b] pos) (Dm.tV (Dm.e2 Dm.uz fa fb)):=PT.weak (Bl (Ah (u1 hr) ha hb) hm) fun σ H Q h=>wU GI (rP h)
theorem CG{Qp cpos:Pos}(hr:aT k X.A)(ha:DE X a fa)(hb:DE X b fb)(m:M1 X a "get" Qp b cpos:=by exact⟨rfl,rfl,rfl,rfl⟩):DE X (.Call (.Attribute a "get" Qp) [b] [] cpos) (Dm.uA fa fb):=PE.weak (BW (u1 hr) ha hb m) fun _ _ _=>LW
theorem rX(i:Nat){x:Str}{px sp:Pos}(hr:aT k X.A)(hb:DE X b fb)(he:DE X e f)(hi:X.N[i]?=some x:=by rfl)(hv:Vis X.env.scope x:=by trivial)(hd:(x == ("__debug__" : Str))=false:=by decide)
  (MZ:(x == ("__classdict__" : Str))=false:=by decide) (hs:swapsWith e (some (.Subscript (.Name x px) b sp)) pos.line X.env=pure false:=by rfl):DS X (.Assign [.Subscript (.Name x px) b sp] e pos) (Dm.m9 i fb f):=
 PS.weak (F8 (u1 hr) (fN hi hv hd MZ) hb he hs) fun _ _ _=>LY
end
end Br
namespace Dm
noncomputable def S7(a:FE)(lo hi:Option FE):FE:=fun ρ=>match a ρ with
 |none=>none
 |some (x,ρ1)=>match part lo ρ1 with
  |none=>none
  |some (l,ρ2)=>match part hi ρ2 with
   |none=>none
   |some (h,ρ3)=>match pk ρ3 x with
    |some (.tup xs)=>if sIx xs.length 0 l=0/\sIx xs.length xs.length h=xs.length then none else some (.val (.tup (cut xs l h)),ρ3)
    |_=>none
noncomputable def yQ:List Dat->Option RV
 |[.tup [.int a,.int b]]=>if -1000000<=a/\a<=1000000/\-1000000<=b/\b<=1000000 then vI (a+b) else none
 |_=>none
end Dm
namespace Br
open PySem PySem.Spec PyProof.Rows L2
section
variable{σ:L2.St}{H:Hp}{Q:VK}
theorem Sb{K:eg}{f:FE}{Q:Bool->Hp->Prop}(h:tDT (Dm.tTr f) σ H Q):tD f σ H fun x H'=>∃k,K1 K x H' k/\Q k H':=by
 obtain⟨H0,ρ,b,ρ',st,e,k⟩:=h;unfold Dm.tTr at e;split at e
 ·cases e
 rename_i x ρ1 e1;split at e
 ·cases e
 rename_i d p1;split at e
 ·cases e
 rename_i c tc;cases e;refine⟨H0,ρ,x,_,st,e1,fun v H1 Hb t1 r1=>⟨b,?_,k H1 Hb t1⟩⟩;have rl:=r1.look t1.st p1;cases d with
 |non=>
  cases tc;rcases rl with r | ⟨a,_,w⟩
  ·cases r;rfl
  ·exact TF w
 |bl c=>cases tc;cases yG rl;rfl
 |int i=>cases tc;cases aC rl;rfl
 |tup es=>cases tc;obtain⟨a,xs,rfl,qa,rs⟩:=dI t1.st.same rl;refine .inr (.inl ⟨xs,SqT.of qa,?_⟩);cases rs<;>rfl
 |lst es=>cases tc;obtain⟨a,xs,rfl,qa,rs⟩:=br t1.st.same rl;refine .inl ⟨xs,.inl qa,?_⟩;cases rs<;>rfl
 |str _=>cases tc
 |dct _ _=>cases tc
 |exc _=>cases tc
 |fn _=>cases tc
end
section
variable{X:Cx}{a:Expr}{fa:FE}{p pos:Pos}
theorem Sd(ha:DE X a fa)(he:∀whole,isTrue a X.env whole=(do let v <- whole;standAt a.pos;holding [v] (truthy v)):=by intro _;rfl):DT X a (Dm.tTr fa):=PT.weak (BF ha he) fun _ _ _=>Sb
end
section
variable{X:Cx}{a b e:Expr}{fa fb f:FE}{fs:List FE}{p p2 pos:Pos}
theorem AE(hc:X.calm=true):cy X (.builtin "sum") (fun xs H Q=>∃(q:Addr) (i j:Int),xs=[.ref q]/\H q=some (.tup [.int i,.int j])/\(-1000000<=i/\i<=1000000/\-1000000<=j/\j<=1000000)/\Q (.int (i+j)) H):=by
 intro uV s σ H xs us Q I r h;obtain⟨q,i,j,rfl,hq,hb,k⟩:=h;obtain⟨u,rfl,rx⟩:=vals1 r;cases rx;obtain⟨its,rv,pl,hz⟩:=I.tuple (SqT.of hq);obtain⟨u1,u2,rfl,r1,r2⟩:=vals2 rv;obtain⟨t1,rfl⟩:=r1;obtain⟨t2,rfl⟩:=r2;have ht:s.heap.IsTuple q #[.int i t1,.int j t2]:=pl;obtain⟨oq,eq,_⟩:=id ht;have hax:q≠s.heap.objs.size:=Tu (Tn eq);refine PySem.call_sum_walk (wpAny_pyIter_tuple ht ⟨s.heap.objs.size,_,_,_,_,_,fun n=>if n=0 then i else j,rfl,Walks.tuple (A:=X.A.in1) (I.ok.hd hc) s.heap.objs.size q hax #[.int i t1,.int j t2],⟨⟨_,TQ _ rfl,rfl,rfl⟩,?_⟩,?_,?_,?_,fun h' tk t' hk=>?_⟩)
 ·exact ht.at fun o e=>gV _ e
 ·intro b hb;simp only[Tp,Vc,or_false]at hb;have hz:(s.heap.push { cls:=.type "tuple_iterator",data:=.fields #[.ref q,.int 0 0] }).objs.size=s.heap.objs.size+1:=VD ..;show b<(s.heap.push { cls:=.type "tuple_iterator",data:=.fields #[.ref q,.int 0 0] }).objs.size;rw[hz];rcases hb with rfl | rfl
  ·exact WK _
  ·exact UH (Tn eq)
 ·intro n v hv
  match n,hv with
  |0,hv=>cases hv;exact⟨t1,rfl⟩
  |1,hv=>cases hv;exact⟨t2,rfl⟩
  |n+2,hv=>simp at hv
 ·intro n hn;have hn:n<2:=hn
  match n,hn with
  |0,_=>simp[InLong,preSum];lia
  |1,_=>simp[InLong,preSum];lia
 ·refine⟨.int (i+j),H,I.kept (t':=tk) fun b o eb=>hk b o ?_ (gV _ eb),⟨t',?_⟩,k⟩
  ·intro hm;have:b=s.heap.objs.size:=by simpa using hm
   exact absurd (Tn eb) (by rw[this];exact Uu _)
  ·simp[preSum]
theorem GJ:CallD (fun xs H Q=>∃(q:Addr) (i j:Int),xs=[.ref q]/\H q=some (.tup [.int i,.int j])/\(-1000000<=i/\i<=1000000/\-1000000<=j/\j<=1000000)/\Q (.int (i+j)) H) Dm.yQ:=by
 intro H0 H xs ds z Q s rx e k;unfold Dm.yQ at e;split at e
 ·rename_i i j;split at e
  ·rename_i hb;cases e;cases rx with
   |cons r rr=>
    cases rr;obtain⟨q,us,rfl,qa,ra⟩:=dI s r;cases ra with
    |cons r1 rr=>
     cases rr with
     |cons r2 rr=>cases rr;cases Rep.isInt r1;cases Rep.isInt r2;exact⟨q,i,j,rfl,qa,hb,k _ H0 H (aJ.refl s) (.int _)⟩
  ·cases e
 ·cases e
theorem L5(hc:X.calm=true)(hg:Gl X "sum")(hm:X.mg "sum" = none)(ha:DA X [e] fs)(he:starEach [e] X.env=[(false,eval e X.env)]:=by rfl)(Dy:(backTo pos (starEach [] X.env)).any (·.1)=false:=by rfl):DE X (.Call (.Name "sum" p) [e] [] pos) (Dm.eB Dm.yQ fs):=wZ (AE hc) GJ PyProof.Rows.boot_sum hg hm ha (he:=he) (Dy:=Dy)
end
end Br
namespace Dm
noncomputable def dQ:List Dat->Option (List Int)
 |[]=>some []
 |.int i::r=>(dQ r).map fun ns=>i::ns
 |_=>none
noncomputable def dedup(ns:List Int):List Int:=ns.foldl (fun DZ x=>if DZ.any (· == x) then DZ else DZ++[x]) []
noncomputable def lY:Dat->Option RV
 | .lst ds=>(match dQ ds with
  |some ns=>if ns.length<=4000 then vI (dedup ns).length else none
  |none=>none)
 |_=>none
end Dm
namespace Br
open PySem PySem.Spec PyProof.Rows L2
def t7(K:eg):List V->Hp->VK->Prop:=fun xs H Q=>∃(q:Addr) (ns:List Int),xs=[.ref q]/\SqL K H q (ns.map V.int)/\ns.length+1<scanBound /\
 ∀l,H l=none->Q (.ref l) (upd H l (.set (fun k'=>(firstMet (fun i=>ns.getD i 0) ns.length).any (· == k')) (firstMet (fun i=>ns.getD i 0) ns.length).length))
def Jc:List V->Hp->VK->Prop:=fun xs H Q=>∃(q:Addr) (S:Int->Bool) (n:Nat),xs=[.ref q]/\H q=some (.set S n)/\Q (.int n) H
theorem intsAre_of:∀{ns:List Int} {its:List Value},Vals (ns.map V.int) its->IntsAre its ns
 |[],_,r=>by cases r;exact .nil
 |n::ns,_,r=>by
  rw[PU]at r;cases r with
  |cons h t=>obtain⟨tk,rfl⟩:=h;exact .cons _ _ (intsAre_of t)
section
variable{X:Cx}
theorem AF(hc:X.calm=true):cy X (.type "set") (t7 X.K):=by
 intro uV s σ H xs us Q I r h;obtain⟨q,ns,rfl,hq,hb,k⟩:=h;obtain⟨u,rfl,rx⟩:=vals1 r;cases rx;obtain⟨its,rv,pl,hz⟩:=I.list hq;have hl:=rv.length;rw[Dp]at hl;refine call_set_list (ns:=ns) (I.ok.hd hc) pl.isList (intsAre_of rv) (by rw[Sx,<- hl];exact hb) fun h' tk hS hk=>?_;have hz2:its.toArray.size=ns.length:=by rw[Sx,<- hl]
 rw[hz2]at hS;exact⟨.ref s.heap.objs.size,_,I.laid (a:=s.heap.objs.size) (o:=.set (fun k'=>(firstMet (fun i=>ns.getD i 0) ns.length).any (· == k')) (firstMet (fun i=>ns.getD i 0) ns.length).length) (t':=tk) (fun b u e=>hk b u (Tn e) e) (Nat.le_refl _) hS,rfl,k _ (I.hok.fresh (Nat.le_refl _))⟩
theorem AG:cy X (.builtin "len") Jc:=by intro uV s σ H xs us Q I r h;obtain⟨q,S,n,rfl,hq,k⟩:=h;obtain⟨u,rfl,rx⟩:=vals1 r;cases rx;obtain⟨o,es,ep,t,ho,hex,hd,_,_,hb,hf,hn⟩:s.heap.SetOf (intKind X.prog X.w) q S n:=I.hok q _ hq;have hb':es.size<4096:=hb;refine call_len_set ho hex hd hf (by lia) ?_;exact⟨.int n,H,I.tok _,⟨_,by rw[hn]⟩,k⟩
end
theorem jS{H0:Hp}:∀{ds:List Dat} {xs:List V} {ns:List Int},aD H0 xs ds->Dm.dQ ds=some ns->xs=ns.map V.int
 |[],_,ns,r,e=>by cases r;cases e;rfl
 |d::ds,_,ns,r,e=>by
  cases r with
  |cons h t=>
   cases d with
   |int i=>
    unfold Dm.dQ at e;cases q:Dm.dQ ds with
    |none=>rw[q]at e;cases e
    |some ms=>rw[q]at e;cases e;cases Rep.isInt h;rw[jS t q];rfl
   |_=>cases e
theorem range_getD(ns:List Int):(TV ns.length).map (fun i=>ns.getD i 0)=ns:=by
 apply VW;intro i;rw[TM];by_cases h:i<ns.length
 ·rw[U9 h,Tv h];simp[UG,h]
 ·rw[Uk (by simpa using h),Uk (by simpa using h)];rfl
theorem ng(ns:List Int):(firstMet (fun i=>ns.getD i 0) ns.length)=Dm.dedup ns:=by unfold firstMet Dm.dedup;rw[range_getD];rfl
section
variable{X:Cx}{e:Expr}{f:FE}{p p0 pos kJ:Pos}
theorem CH{K:eg}{σ:L2.St}{H:Hp}{Q:VK}(h:tD (Dm.e1 Dm.lY f) σ H Q):tCB Jc (gJ (tCB (t7 K) (gJ (tD f) rE)) rE) σ H Q:=by
 obtain⟨H0,ρ,x,ρ',st,e,k⟩:=h;unfold Dm.e1 at e;split at e
 ·cases e
 rename_i x1 ρ1 e1;split at e
 ·cases e
 rename_i dx p1;split at e
 ·cases e
 rename_i z gz;cases e;unfold Dm.lY at gz;split at gz
 ·rename_i ds;split at gz
  ·rename_i ns en;split at gz
   ·rename_i hb;cases gz;refine⟨H0,ρ,x1,_,st,e1,fun v H1 Hb t1 r1=>?_⟩;obtain⟨a,xs,rfl,qa,ra⟩:=br t1.st.same (r1.look t1.st p1);have ex:=jS ra en;subst ex;refine⟨a,ns,rfl,.inl qa,by show ns.length+1<4096;lia,fun l hl=>⟨l,_,_,rfl,ak,?_⟩⟩;rw[ng];exact k _ _ _ (t1.trans (.grow t1.st (aJ.jJ t1.st.same hl))) (Rep.int _)
   ·cases gz
  ·cases gz
 ·cases gz
theorem CI(hc:X.calm=true)(hgl:Gl X "len")(hml:X.mg "len" = none)(hg:Gl X "set")(hm:X.mg "set" = none)(h:DE X e f)(hs:starEach [e] X.env=[(false,eval e X.env)]:=by rfl)
  (hs0:starEach [.Call (.Name "set" p) [e] [] pos] X.env=[(false,eval (.Call (.Name "set" p) [e] [] pos) X.env)]:=by rfl) (Dy:(backTo pos (starEach [] X.env)).any (·.1)=false:=by rfl) (Se:(backTo kJ (starEach [] X.env)).any (·.1)=false:=by rfl) :
  DE X (.Call (.Name "len" p0) [.Call (.Name "set" p) [e] [] pos] [] kJ) (Dm.e1 Dm.lY f):=
 PE.weak (eG AG hgl hml PySem.boot_len (cg (qk (AF hc) hg hm (by rfl) (cg h eY hs) (he:=hs) (Dy:=Dy)) eY hs0) (he:=hs0) (Dy:=Se)) fun _ _ _=>CH
end
end Br
namespace Ts
open PySem PyProof.Rows
variable{M:Model}{A:Around}{E:Value->Shared->Prop}{s:Shared}{κ:KeyKind}{kd:SortKind}{a₀:Array Keyed}
def d7(M:Model)(A:Around)(E:Value->Shared->Prop)(s:Shared)(κ:KeyKind)(kd:SortKind):Prop:=
 ∀(x y:Keyed) (a b:κ.α) (st:SortSt) (Q:Option Bool->SortSt->Prop),κ.keyOf x.1=some a->κ.keyOf y.1=some b->kindOf st=kd->Q (some (κ.blt a b)) st->wpS M A E s (lt' x y) Q st
structure SB(kd:SortKind)(a₀:Array Keyed)(st:SortSt):Prop where
 perm:(arrOf st).Perm a₀
 kind:kindOf st=kd
 failed:failedOf st=none
theorem SB.size{st:SortSt}(h:SB kd a₀ st):(arrOf st).size=a₀.size:=h.perm.size_eq
theorem SB.arr{st:SortSt}(h:SB kd a₀ st){xs:Array Keyed}(hp:xs.Perm (arrOf st)):SB kd a₀ (setArr st xs):=⟨hp.trans h.perm,h.kind,h.failed⟩
theorem SB.pend{st:SortSt}(h:SB kd a₀ st)(p:Array (Nat×Nat×Nat)):SB kd a₀ (setPending st p):=⟨h.perm,h.kind,h.failed⟩
theorem SB.keys{st:SortSt}(h:SB kd a₀ st)(h0:KeysOf κ a₀):KeysOf κ (arrOf st):=fun p hp=>h0 p ((Vl.mp h.perm).mem_iff.mp hp)
theorem rY{xs:Array Keyed}(h:KeysOf κ xs){i:Nat}(hi:i<xs.size):∃p,xs[i]?=some p/\κ.keyOf p.1=some (KK κ xs i):=by refine⟨xs[i],getElem?_pos xs i hi,?_⟩;obtain⟨a,e⟩:=h xs[i] (by simp);unfold KK;rw[getElem?_pos xs i hi];dsimp only;rw[e];rfl
theorem qz(hL:d7 M A E s κ kd){st:SortSt}(hB:SB kd a₀ st)(h0:KeysOf κ a₀){i j:Nat}(hi:i<a₀.size)(hj:j<a₀.size){Q:Option Bool->SortSt->Prop}
  (h:Q (some (κ.blt (KK κ (arrOf st) i) (KK κ (arrOf st) j))) st):wpS M A E s (ltAt' i j) Q st:=by
 obtain⟨p,ep,kp⟩:=rY (hB.keys h0) (i:=i) (by rw[hB.size];exact hi);obtain⟨q,eq,kq⟩:=rY (hB.keys h0) (i:=j) (by rw[hB.size];exact hj);rw[ltAt'_eq];refine wpS_bind (wpS_get ?_);show wpS _ _ _ _ (elem' (arrOf st) i >>= fun x=>elem' (arrOf st) j >>= fun y=>lt' x y) Q st;rw[elem'_eq,elem'_eq,ep,eq];exact wpS_bind (wpS_pure (wpS_bind (wpS_pure (hL p q _ _ st Q kp kq hB.kind h))))
def Seg(κ:KeyKind)(xs:Array Keyed)(i j:Nat):Prop:=∀p q,i<=p->p<=q->q<j->κ.kle (KK κ xs p) (KK κ xs q)
def AH(κ:KeyKind)(xs:Array Keyed)(i j:Nat):Prop:=∀p q,i<=p->p<=q->q<j->κ.kle (KK κ xs q) (KK κ xs p)
def Out(xs ys:Array Keyed)(i j:Nat):Prop:=∀k,(k<i\/j<=k)->ys[k]?=xs[k]?
theorem Out.refl(xs:Array Keyed)(i j:Nat):Out xs xs i j:=fun _ _=>rfl
theorem Out.trans{xs ys zs:Array Keyed}{i j:Nat}(h:Out xs ys i j)(h':Out ys zs i j):Out xs zs i j:=fun k hk=>(h' k hk).trans (h k hk)
theorem Out.mono{xs ys:Array Keyed}{i j i' j':Nat}(h:Out xs ys i j)(h1:i'<=i)(h2:j<=j'):Out xs ys i' j':=fun k hk=>h k (by lia)
theorem Out.seg{xs ys:Array Keyed}{i j p q:Nat}(h:Out xs ys i j)(h':q<=i\/j<=p)(g:Seg κ xs p q):Seg κ ys p q:=fun a b ha SA hb=>by rw[KK_congr (h a (by lia)),KK_congr (h b (by lia))];exact g a b ha SA hb
theorem e8{xs:Array Keyed}{i j:Nat}(hj:j<=xs.size):Out xs (mirror xs i j ((j-i) / 2)) i j:=fun k hk=>by rw[getElem?_mirror_all hj,if_neg (by lia)]
theorem xm{xs:Array Keyed}{src d:Nat}(hs:src<xs.size)(hd:d<=src):Out xs (bubble xs src d) (src-d) (src+1):=fun k hk=>by rw[getElem?_bubble hs d hd,if_neg (by lia),if_neg (by lia)]
theorem L6(hL:d7 M A E s κ kd)(h0:KeysOf κ a₀){st:SortSt}(hB:SB kd a₀ st){lo n ok:Nat}(hn:lo+n<=a₀.size)(h1:1<=ok)(hok:ok<=n)(hs:Seg κ (arrOf st) lo (lo+ok)){Q:Bool->SortSt->Prop}
  (h:∀xs,xs.Perm (arrOf st)->Seg κ xs lo (lo+n)->Out (arrOf st) xs lo (lo+n)->Q true (setArr st xs)):wpS M A E s (binarySort' lo n ok) Q st:=by
 rw[binarySort'_eq];refine wpS_bind (wpS_mono (wpS_forRange (I:=fun k c st'=>c=(none,())/\∃xs,st'=setArr st xs/\xs.Perm (arrOf st)/\Seg κ xs lo (lo+k)/\Out (arrOf st) xs lo (lo+n)) (Q:=fun c st'=>c=(none,())/\∃xs,st'=setArr st xs/\xs.Perm (arrOf st)/\Seg κ xs lo (lo+n)/\Out (arrOf st) xs lo (lo+n)) ?step ?HB ?ini) ?post)
 case ini=>refine⟨rfl,arrOf st,rfl,Array.Perm.refl _,?_,Out.refl _ _ _⟩;rw[show max ok 1=ok by lia];exact hs
 case HB=>rintro c st' ⟨rfl,xs,rfl,hp,hsg,ho⟩;rw[show max (max ok 1) n=n by lia]at hsg;exact⟨rfl,xs,rfl,hp,hsg,ho⟩
 case post=>rintro c st' ⟨rfl,xs,rfl,hp,hsg,ho⟩;exact wpS_pure (h xs hp hsg ho)
 case step=>
  rintro k c st' hk1 hk2 ⟨rfl,xs,rfl,hp,hsg,ho⟩;dsimp only;have hB':SB kd a₀ (setArr st xs):=hB.arr hp;have hsz:xs.size=a₀.size:=hB'.size;refine wpS_bind (wpS_mono (wpS_forRange (I:=fun i c st'=>∃ l r,c=(none,l,r)∧st'=setArr st xs∧l≤r∧r≤k∧r-l≤k-i∧(∀ p,p<l→κ.kle (KK κ xs (lo+p)) (KK κ xs (lo+k)))∧(∀ p,r≤p→p<k→κ.klt (KK κ xs (lo+k)) (KK κ xs (lo+p))))
   (Q:=fun c st'=>∃l,c=(none,l,l)/\st'=setArr st xs/\l<=k/\(∀p,p<l->κ.kle (KK κ xs (lo+p)) (KK κ xs (lo+k)))/\(∀p,l<=p->p<k->κ.klt (KK κ xs (lo+k)) (KK κ xs (lo+p)))) ?st2 ?fi2 ⟨0,k,rfl,rfl,T8 _,Nat.le_refl _,by lia,fun p hp=>by lia,fun p h1 h2=>by lia⟩) ?po2)
  case fi2=>
   rintro c st' ⟨l,r,rfl,rfl,h1,h2,h3,h4,h5⟩;have:l=r:=by lia
   subst this;exact⟨l,rfl,rfl,h2,h4,h5⟩
  case st2=>
   rintro i c st' _ hi ⟨l,r,rfl,rfl,h1,h2,h3,h4,h5⟩;dsimp only;by_cases hlr:l≥r
   ·rw[if_pos hlr];have:l=r:=by lia
    subst this;exact wpS_pure ⟨l,rfl,rfl,h2,h4,h5⟩
   ·rw[if_neg hlr];refine wpS_bind (qz hL hB' h0 (by lia) (by lia) ?_);dsimp only;cases hb:κ.blt (KK κ (arrOf (setArr st xs)) (lo+k)) (KK κ (arrOf (setArr st xs)) (lo+(l+r) / 2))
    case true=>rw[if_pos rfl];refine wpS_pure ⟨l,(l+r) / 2,rfl,rfl,by lia,by lia,by lia,h4,fun p hp1 hp2=>?_⟩;exact KeyOrd.klt_of_klt_of_kle hb (hsg _ _ (by lia) (by lia) (by lia))
    case false=>rw[if_neg (by decide)];refine wpS_pure ⟨(l+r) / 2+1,r,rfl,rfl,by lia,h2,by lia,fun p hp1=>?_,h5⟩;exact UO (hsg _ _ (by lia) (by lia) (by lia)) hb
  case po2=>
   rintro c st' ⟨l,rfl,rfl,hlk,hlo,hhi⟩;dsimp only;rw[moveDown'_eq];have hd:lo+k-(lo+l)=k-l:=by lia
   have hsk:lo+k<xs.size:=by lia
   refine wpS_bind (wpS_modify (wpS_pure ⟨rfl,bubble xs (lo+k) (lo+k-(lo+l)),rfl,(bubble_perm _ _ _).trans hp,?_,ho.trans ((xm hsk (by lia)).mono (by lia) (by lia))⟩));intro p q h1 h2 h3;rw[KK_bubble hsk (by lia),KK_bubble hsk (by lia)];rw[show lo+k-(lo+k-(lo+l))=lo+l by lia];by_cases hp1:p=lo+l
   ·rw[if_pos hp1];by_cases hq1:q=lo+l
    ·rw[if_pos hq1];exact UC _
    ·rw[if_neg hq1,if_pos (by lia)];have:=hhi (q-1-lo) (by lia) (by lia);rw[show lo+(q-1-lo)=q-1 by lia]at this;exact Ur this
   ·rw[if_neg hp1];by_cases hp2:lo+l<p/\p<=lo+k
    ·rw[if_pos hp2,if_neg (by lia),if_pos (by lia)];exact hsg _ _ (by lia) (by lia) (by lia)
    ·rw[if_neg hp2];by_cases hq1:q=lo+l
     ·rw[if_pos hq1];have:=hlo (p-lo) (by lia);rw[show lo+(p-lo)=p by lia]at this;exact this
     ·rw[if_neg hq1];by_cases hq2:lo+l<q/\q<=lo+k
      ·rw[if_pos hq2];exact hsg _ _ (by lia) (by lia) (by lia)
      ·rw[if_neg hq2];exact hsg _ _ (by lia) (by lia) (by lia)
end Ts
namespace Ts
open PySem PyProof.Rows
variable{M:Model}{A:Around}{E:Value->Shared->Prop}{s:Shared}{κ:KeyKind}{kd:SortKind}{a₀:Array Keyed}
noncomputable def upL(lo k nrem:Nat):StateT SortSt Sem (Option Nat):=do
 let mut m:=k
 for _ in [k:nrem] do
  let some c <- ltAt' (lo+m) (lo+m-1)
   |return none
  if c then break
  m:=m+1
 return some m
noncomputable def Jd(lo k nrem:Nat):StateT SortSt Sem (Option Nat):=do
 rule "list.sort.descending-run"
 let mut m:=k+1
 let mut e:=0
 for _ in [k+1:nrem] do
  let some c <- ltAt' (lo+m) (lo+m-1)
   |return none
  if c then
   if e>0 then reverseSlice' (lo+m-(e+1)) (lo+m)
   e:=0
  else
   let some d <- ltAt' (lo+m-1) (lo+m)
    |return none
   if d then break
   e:=e+1
  m:=m+1
 if e>0 then reverseSlice' (lo+m-(e+1)) (lo+m)
 reverseSlice' lo (lo+m)
 let mut z:=m
 for _ in [m:nrem] do
  let some c <- ltAt' (lo+z) (lo+z-1)
   |return none
  if c then break
  z:=z+1
 return some z
theorem GK{xs:Array Keyed}{i:Nat}:Seg κ xs i (i+1):=fun p q a b c=>by
 have:p=q:=by lia
 subst this;exact UC _
theorem uB{xs:Array Keyed}{i n:Nat}(h:Seg κ xs i (i+n))(h1:1<=n)(hb:κ.kle (KK κ xs (i+n-1)) (KK κ xs (i+n))):Seg κ xs i (i+(n+1)):=fun p q a b c=>by
 by_cases hq:q<i+n
 ·exact h p q a b hq
 ·have:q=i+n:=by lia
  subst this;by_cases hp:p=i+n
  ·subst hp;exact UC _
  ·exact UO (h p (i+n-1) a (by lia) (by lia)) hb
theorem eN{xs:Array Keyed}{i n:Nat}(h:AH κ xs i (i+n))(h1:1<=n)(hb:κ.kle (KK κ xs (i+n)) (KK κ xs (i+n-1))):AH κ xs i (i+(n+1)):=fun p q a b c=>by
 by_cases hq:q<i+n
 ·exact h p q a b hq
 ·have:q=i+n:=by lia
  subst this;by_cases hp:p=i+n
  ·subst hp;exact UC _
  ·exact UO hb (h p (i+n-1) a (by lia) (by lia))
section
variable{prog:Program}{w:World}
theorem Pw(hL:d7 (model prog w) A E s κ kd)(h0:KeysOf κ a₀){st:SortSt}(hB:SB kd a₀ st){lo k nrem:Nat}(hn:lo+nrem<=a₀.size)(h1:1<=k)(hk:k<=nrem)(hs:Seg κ (arrOf st) lo (lo+k)){Q:Option Nat->SortSt->Prop}
  (h:∀n,k<=n->n<=nrem->Seg κ (arrOf st) lo (lo+n)->Q (some n) st):wpS (model prog w) A E s (upL lo k nrem) Q st:=by
 unfold upL;refine wpS_bind (wpS_mono (wpS_forRange (I:=fun i c st'=>c=(none,i)/\st'=st/\i<=nrem/\Seg κ (arrOf st) lo (lo+i)) (Q:=fun c st'=>∃n,c=(none,n)/\st'=st/\k<=n/\n<=nrem/\Seg κ (arrOf st) lo (lo+n)) ?st1 ?fi1 ⟨rfl,rfl,hk,hs⟩) ?po1)
 case fi1=>rintro c st' ⟨rfl,rfl,hle,hsg⟩;exact⟨_,rfl,rfl,by lia,hle,hsg⟩
 case st1=>
  rintro i c st' hi1 hi2 ⟨rfl,rfl,hle,hsg⟩;dsimp only;refine wpS_bind (qz hL hB h0 (by lia) (by lia) ?_);dsimp only;cases hb:κ.blt (KK κ (arrOf st') (lo+i)) (KK κ (arrOf st') (lo+i-1))
  case true=>rw[if_pos rfl];exact wpS_pure ⟨i,rfl,rfl,hi1,hle,hsg⟩
  case false=>rw[if_neg (by decide)];exact wpS_pure ⟨rfl,rfl,by lia,uB hsg (by lia) hb⟩
 case po1=>rintro c st' ⟨n,rfl,rfl,h2,h3,h4⟩;exact wpS_pure (h n h2 h3 h4)
theorem rZ{xs:Array Keyed}{i j:Nat}(hj:j<=xs.size)(he:∀k,i<=k->k<j->KK κ xs k=KK κ xs (j-1)):∀k,KK κ (mirror xs i j ((j-i) / 2)) k=KK κ xs k:=KK_mirror_equal hj he
theorem yR(hL:d7 (model prog w) A E s κ kd)(h0:KeysOf κ a₀){st:SortSt}(hB:SB kd a₀ st){lo k nrem:Nat}(hn:lo+nrem<=a₀.size)(h1:1<=k)(hk:k<nrem)(hs:AH κ (arrOf st) lo (lo+(k+1))){Q:Option Nat->SortSt->Prop}
  (h:∀n xs,1<=n->n<=nrem->xs.Perm (arrOf st)->Seg κ xs lo (lo+n)->Out (arrOf st) xs lo (lo+nrem)->Q (some n) (setArr st xs)):wpS (model prog w) A E s (Jd lo k nrem) Q st:=by
 unfold Jd;refine wpS_bind (wpS_lift (wpAny_rule ⟨rfl,?_⟩));refine wpS_bind (wpS_mono (wpS_forRange
  (I:=fun i c st'=>∃e xs,c=(none,i,e)/\st'=setArr st xs/\i<=nrem/\xs.Perm (arrOf st)/\Out (arrOf st) xs lo (lo+nrem)/\AH κ xs lo (lo+i)/\e+1<=i/\∀p,lo+i-(e+1)<=p->p<lo+i->KK κ xs p=KK κ xs (lo+i-1))
  (Q:=fun c st'=>∃e i xs,c=(none,i,e)/\st'=setArr st xs/\k+1<=i/\i<=nrem/\xs.Perm (arrOf st)/\Out (arrOf st) xs lo (lo+nrem)/\AH κ xs lo (lo+i)/\e+1<=i/\∀p,lo+i-(e+1)<=p->p<lo+i->KK κ xs p=KK κ xs (lo+i-1)) ?st1 ?fi1 ?in1) ?po1)
 case in1=>exact⟨0,arrOf st,rfl,rfl,by lia,Array.Perm.refl _,Out.refl _ _ _,hs,by lia,fun p h2 h3=>by rw[show p=lo+(k+1)-1 by lia]⟩
 case fi1=>rintro c st' ⟨e,xs,rfl,rfl,h2,h3,h4,h5,h6,h7⟩;exact⟨e,_,xs,rfl,rfl,by lia,h2,h3,h4,h5,h6,h7⟩
 case st1=>
  rintro i c st' hi1 hi2 ⟨e,xs,rfl,rfl,h2,h3,h4,h5,h6,h7⟩;have hB':SB kd a₀ (setArr st xs):=hB.arr h3;have hsz:xs.size=a₀.size:=hB'.size;dsimp only;refine wpS_bind (qz hL hB' h0 (by lia) (by lia) ?_);dsimp only;cases hb:κ.blt (KK κ (arrOf (setArr st xs)) (lo+i)) (KK κ (arrOf (setArr st xs)) (lo+i-1))
  case true=>
   rw[if_pos rfl];have hd:κ.kle (KK κ xs (lo+i)) (KK κ xs (lo+i-1)):=Ur hb;by_cases he:e>0
   ·rw[if_pos he,reverseSlice'_eq];have ke:=rZ (κ:=κ) (xs:=xs) (i:=lo+i-(e+1)) (j:=lo+i) (by lia) h7;refine wpS_bind (wpS_modify (wpS_pure ⟨0,mirror xs (lo+i-(e+1)) (lo+i) ((lo+i-(lo+i-(e+1))) / 2),rfl,rfl,by lia,(mirror_perm _ _ _ _).trans h3,h4.trans ((e8 (by lia)).mono (by lia) (by lia)),?_,by lia,fun p h8 h9=>by rw[show p=lo+(i+1)-1 by lia]⟩));have:=eN h5 (by lia) hd;exact fun p q a b c=>by rw[ke,ke];exact this p q a b c
   ·rw[if_neg he];exact wpS_pure ⟨0,xs,rfl,rfl,by lia,h3,h4,eN h5 (by lia) hd,by lia,fun p h8 h9=>by rw[show p=lo+(i+1)-1 by lia]⟩
  case false=>
   rw[if_neg (by decide)];refine wpS_bind (qz hL hB' h0 (by lia) (by lia) ?_);dsimp only;cases hb2:κ.blt (KK κ (arrOf (setArr st xs)) (lo+i-1)) (KK κ (arrOf (setArr st xs)) (lo+i))
   case true=>rw[if_pos rfl];exact wpS_pure ⟨e,i,xs,rfl,rfl,hi1,h2,h3,h4,h5,h6,h7⟩
   case false=>
    rw[if_neg (by decide)];have heq:KK κ xs (lo+i-1)=KK κ xs (lo+i):=κ.total _ _ hb2 hb;refine wpS_pure ⟨e+1,xs,rfl,rfl,by lia,h3,h4,eN h5 (by lia) hb2,by lia,fun p h8 h9=>?_⟩;rw[show lo+(i+1)-1=lo+i by lia];by_cases hp:p=lo+i
    ·rw[hp]
    ·rw[h7 p (by lia) (by lia),heq]
 case po1=>
  rintro c st' ⟨e,i,xs,rfl,rfl,hki,h2,h3,h4,h5,h6,h7⟩;have hB':SB kd a₀ (setArr st xs):=hB.arr h3;have hsz:xs.size=a₀.size:=hB'.size;dsimp only;have last:∀ys,ys.Perm xs->(∀p,KK κ ys p=KK κ xs p)->Out xs ys lo (lo+nrem)->wpS (model prog w) A E s (reverseSlice' lo (lo+i) >>= fun _=>upL lo i nrem) Q (setArr st ys):=fun ys hp hk hO=>by
   rw[reverseSlice'_eq];have S8:ys.size=a₀.size:=hp.size_eq.trans hsz;refine wpS_bind (wpS_modify ?_);have hB2:SB kd a₀ (setArr st (mirror ys lo (lo+i) ((lo+i-lo) / 2))):=hB.arr ((mirror_perm _ _ _ _).trans (hp.trans h3));refine Pw hL h0 hB2 hn (by lia) h2 (fun p q a b c=>?_) fun n h8 h9 h10=>?_
   ·show κ.kle (KK κ (mirror ys lo (lo+i) ((lo+i-lo) / 2)) p) (KK κ (mirror ys lo (lo+i) ((lo+i-lo) / 2)) q);rw[KK_mirror (by lia),KK_mirror (by lia),if_pos (by lia),if_pos (by lia),hk,hk];exact h5 _ _ (by lia) (by lia) (by lia)
   ·exact h n _ (by lia) h9 ((mirror_perm _ _ _ _).trans (hp.trans h3)) h10 ((h4.trans hO).trans ((e8 (by lia)).mono (by lia) (by lia)))
  by_cases he:e>0
  ·rw[if_pos he];refine wpS_bind ?_;rw[reverseSlice'_eq];refine wpS_modify ?_;exact last (mirror xs (lo+i-(e+1)) (lo+i) ((lo+i-(lo+i-(e+1))) / 2)) (mirror_perm _ _ _ _) (rZ (xs:=xs) (by lia) h7) ((e8 (xs:=xs) (by lia)).mono (by lia) (by lia))
  ·rw[if_neg he];exact last xs (Array.Perm.refl _) (fun _=>rfl) (Out.refl _ _ _)
theorem L7(hL:d7 (model prog w) A E s κ kd)(h0:KeysOf κ a₀){st:SortSt}(hB:SB kd a₀ st){lo nrem:Nat}(hn:lo+nrem<=a₀.size)(h1:1<=nrem){Q:Option Nat->SortSt->Prop}
  (h:∀n xs,1<=n->n<=nrem->xs.Perm (arrOf st)->Seg κ xs lo (lo+n)->Out (arrOf st) xs lo (lo+nrem)->Q (some n) (setArr st xs)):wpS (model prog w) A E s (countRun' lo nrem) Q st:=by
 rw[countRun'_eq];refine wpS_bind (wpS_mono (wpS_forRange (I:=fun i c st'=>c=(none,i)∧st'=st∧i≤nrem∧Seg κ (arrOf st) lo (lo+i))
  (Q:=fun c st'=>∃n,c=(none,n)/\st'=st/\1<=n/\n<=nrem/\Seg κ (arrOf st) lo (lo+n)/\(n=nrem\/κ.klt (KK κ (arrOf st) (lo+n)) (KK κ (arrOf st) (lo+n-1)))) ?st1 ?fi1 ⟨rfl,rfl,h1,GK⟩) ?po1)
 case fi1=>rintro c st' ⟨rfl,rfl,hle,hsg⟩;exact⟨_,rfl,rfl,by lia,hle,hsg,.inl (by lia)⟩
 case st1=>
  rintro i c st' hi1 hi2 ⟨rfl,rfl,hle,hsg⟩;dsimp only;refine wpS_bind (qz hL hB h0 (by lia) (by lia) ?_);dsimp only;cases hb:κ.blt (KK κ (arrOf st') (lo+i)) (KK κ (arrOf st') (lo+i-1))
  case true=>rw[if_pos rfl];exact wpS_pure ⟨i,rfl,rfl,hi1,hle,hsg,.inr hb⟩
  case false=>rw[if_neg (by decide)];exact wpS_pure ⟨rfl,rfl,by lia,uB hsg hi1 hb⟩
 case po1=>
  rintro c st' ⟨n,rfl,rfl,hn1,hle,hsg,hstop⟩;dsimp only;by_cases hnn:n=nrem
  ·rw[if_pos (by simpa using hnn)];exact wpS_pure (h n _ hn1 hle (Array.Perm.refl _) hsg (Out.refl _ _ _))
  ·rw[if_neg (by simpa using hnn)];have En:κ.klt (KK κ (arrOf st') (lo+n)) (KK κ (arrOf st') (lo+n-1)):=hstop.resolve_left hnn;by_cases hn2:n>1
   ·rw[if_pos hn2];refine wpS_bind (qz hL hB h0 (by lia) (by lia) ?_);dsimp only;cases hb:κ.blt (KK κ (arrOf st') lo) (KK κ (arrOf st') (lo+n-1))
    case true=>rw[if_pos rfl];exact wpS_pure (h n _ hn1 hle (Array.Perm.refl _) hsg (Out.refl _ _ _))
    case false=>
     rw[if_neg (by decide)];have hsz:=hB.size;have L8:∀p,lo<=p->p<lo+n->KK κ (arrOf st') p=KK κ (arrOf st') (lo+n-1):=fun p h2 h3=>KeyOrd.kle_antisymm (hsg p _ h2 (by lia) (by lia)) (UO hb (hsg lo p (by lia) h2 h3))
     have ke:=rZ (κ:=κ) (xs:=arrOf st') (i:=lo) (j:=lo+n) (by lia) L8;refine wpS_bind ?_;rw[reverseSlice'_eq];refine wpS_modify ?_;have hB2:SB kd a₀ (setArr st' (mirror (arrOf st') lo (lo+n) ((lo+n-lo) / 2))):=hB.arr (mirror_perm _ _ _ _);refine yR hL h0 hB2 hn hn1 (by lia) ?_ fun m xs h2 h3 h4 h5 h6=>?_
     ·have:AH κ (arrOf st') lo (lo+(n+1)):=eN (fun p q a b c=>by rw[L8 p a (by lia),L8 q (by lia) c];exact UC _) hn1 (Ur En);intro p q a b c;show κ.kle (KK κ (mirror (arrOf st') lo (lo+n) ((lo+n-lo) / 2)) q) (KK κ (mirror (arrOf st') lo (lo+n) ((lo+n-lo) / 2)) p);rw[ke,ke];exact this p q a b c
     ·exact h m xs h2 h3 (h4.trans (mirror_perm _ _ _ _)) h5 (((e8 (by lia)).mono (by lia) (by lia)).trans h6)
   ·rw[if_neg hn2];have:n=1:=by lia
    subst this;refine yR hL h0 hB hn hn1 (by lia) ?_ h;exact eN (fun p q a b c=>by
     have:p=q:=by lia
     subst this;exact UC _) hn1 (Ur En)
end
end Ts
namespace Ts
open PySem PyProof.Rows
variable{M:Model}{A:Around}{E:Value->Shared->Prop}{s:Shared}{κ:KeyKind}{kd:SortKind}{a₀:Array Keyed}
noncomputable def lU:Bool->Keyed->Array Keyed->Nat->Nat->Nat->StateT SortSt Sem (Option Nat):=sortPriv% PySem.Builtin.gallop
noncomputable def bey(left:Bool)(x:Keyed)(xs:Array Keyed)(i:Nat):StateT SortSt Sem (Option Bool):=do
 let y <- elem' xs i
 if left then lt' y x
 else
  let c <- lt' x y
  return c.map (!·)
theorem L_(left:Bool)(x:Keyed)(xs:Array Keyed)(b n hint:Nat):lU left x xs b n hint=(do
  let mut l:=0
  let mut o:=1
  let mut u:=0
  let mut v:=0
  let some c <- bey left x xs (b+hint)
   |return none
  if c then
   let m:=n-hint
   for _ in [0:n] do
    if o≥m then break
    let some d <- bey left x xs (b+(hint+o))
     |return none
    if !d then break
    l:=o
    o:=2*o+1
   u:=hint+l+1
   v:=hint+min o m
  else
   let m:=hint+1
   for _ in [0:n] do
    if o≥m then break
    let some d <- bey left x xs (b+(hint-o))
     |return none
    if d then break
    l:=o
    o:=2*o+1
   u:=hint+1-min o m
   v:=hint-l
  for _ in [0:n] do
   if u≥v then break
   let z:=u+(v-u) / 2
   let some d <- bey left x xs (b+z)
    |return none
   if d then u:=z+1
   else v:=z
  return some v):=rfl
noncomputable def pass(κ:KeyKind)(left:Bool)(k:κ.α)(xs:Array Keyed)(i:Nat):Bool:=if left then κ.blt (KK κ xs i) k else !κ.blt k (KK κ xs i)
theorem AI{left:Bool}{k:κ.α}{xs:Array Keyed}{i j:Nat}(h:κ.kle (KK κ xs i) (KK κ xs j))(hp:pass κ left k xs j=true):pass κ left k xs i=true:=by
 unfold pass at hp ⊢;cases left with
 |true=>exact KeyOrd.klt_of_kle_of_klt h hp
 |false=>
  have hp':κ.blt k (KK κ xs j)=false:=by simpa using hp
  have:κ.blt k (KK κ xs i)=false:=by
   cases hb:κ.blt k (KK κ xs i)
   ·rfl
   ·have:=KeyOrd.klt_of_klt_of_kle (O:=κ.toKeyOrd) hb h;rw[show κ.klt k (KK κ xs j)=(κ.blt k (KK κ xs j)=true) from rfl,hp']at this;cases this
  simp[this]
theorem r8(hL:d7 M A E s κ kd){left:Bool}{x:Keyed}{k:κ.α}{xs:Array Keyed}{i:Nat}{st:SortSt}(hx:κ.keyOf x.1=some k)(hk:KeysOf κ xs)(hi:i<xs.size)(hd:kindOf st=kd){Q:Option Bool->SortSt->Prop}
  (h:Q (some (pass κ left k xs i)) st):wpS M A E s (bey left x xs i) Q st:=by
 obtain⟨p,ep,kp⟩:=rY hk hi;unfold bey;rw[elem'_eq,ep];refine wpS_bind (wpS_pure ?_);unfold pass at h;cases left with
 |true=>exact hL p x _ _ st Q kp hx hd h
 |false=>exact wpS_bind (hL x p _ _ st _ hx kp hd (wpS_pure h))
noncomputable def Px(left:Bool)(x:Keyed)(xs:Array Keyed)(b n u0 v0:Nat):StateT SortSt Sem (Option Nat):=do
 let mut u:=u0
 let mut v:=v0
 for _ in [0:n] do
  if u≥v then break
  let z:=u+(v-u) / 2
  let some d <- bey left x xs (b+z)
   |return none
  if d then u:=z+1
  else v:=z
 return some v
theorem CJ(hL:d7 M A E s κ kd){left:Bool}{x:Keyed}{k:κ.α}{xs:Array Keyed}{b n u0 v0:Nat}{st:SortSt}(hx:κ.keyOf x.1=some k)(hk:KeysOf κ xs)(hb:b+n<=xs.size)(hd:kindOf st=kd)
  (up:∀i j,i<=j->j<n->pass κ left k xs (b+j)=true->pass κ left k xs (b+i)=true) (dn:∀i j,i<=j->j<n->pass κ left k xs (b+i)=false->pass κ left k xs (b+j)=false)
  (huv:u0<=v0) (hv:v0<=n) (hu1:∀i,i<u0->pass κ left k xs (b+i)=true) (hv1:∀i,v0<=i->i<n->pass κ left k xs (b+i)=false) {Q:Option Nat->SortSt->Prop}
  (h:∀m,m<=n->(∀i,i<m->pass κ left k xs (b+i)=true)->(∀i,m<=i->i<n->pass κ left k xs (b+i)=false)->Q (some m) st):wpS M A E s (Px left x xs b n u0 v0) Q st:=by
 unfold Px;refine wpS_bind (wpS_mono (wpS_forRange (I:=fun i c st'=>∃ u v,c=(none,u,v)∧st'=st∧u≤v∧v≤n∧v-u≤n-i∧(∀ i,i<u→pass κ left k xs (b+i)=true)∧(∀ i,v≤i→i<n→pass κ left k xs (b+i)=false))
  (Q:=fun c st'=>∃v,c=(none,v,v)/\st'=st/\v<=n/\(∀i,i<v->pass κ left k xs (b+i)=true)/\(∀i,v<=i->i<n->pass κ left k xs (b+i)=false)) ?s1 ?f1 ⟨u0,v0,rfl,rfl,huv,hv,by lia,hu1,hv1⟩) ?p1)
 case f1=>
  rintro c st' ⟨u,v,rfl,rfl,h1,h2,h3,h4,h5⟩;have:u=v:=by lia
  subst this;exact⟨u,rfl,rfl,h2,h4,h5⟩
 case s1=>
  rintro i c st' _ hi ⟨u,v,rfl,rfl,h1,h2,h3,h4,h5⟩;dsimp only;by_cases hu:u≥v
  ·rw[if_pos hu];have:u=v:=by lia
   subst this;exact wpS_pure ⟨u,rfl,rfl,h2,h4,h5⟩
  ·rw[if_neg hu];refine wpS_bind (r8 hL hx hk (by lia) hd ?_);dsimp only;cases hp:pass κ left k xs (b+(u+(v-u) / 2))
   case true=>rw[if_pos rfl];exact wpS_pure ⟨u+(v-u) / 2+1,v,rfl,rfl,by lia,h2,by lia,fun j hj=>up j _ (by lia) (by lia) hp,h5⟩
   case false=>rw[if_neg (by decide)];exact wpS_pure ⟨u,u+(v-u) / 2,rfl,rfl,by lia,by lia,by lia,h4,fun j hj hj2=>dn _ j hj hj2 hp⟩
 case p1=>rintro c st' ⟨v,rfl,rfl,h2,h3,h4⟩;exact wpS_pure (h v h2 h3 h4)
theorem kL(hL:d7 M A E s κ kd){left:Bool}{x:Keyed}{k:κ.α}{xs:Array Keyed}{b n hint:Nat}{st:SortSt}(hx:κ.keyOf x.1=some k)(hk:KeysOf κ xs)(hb:b+n<=xs.size)(hh:hint<n)(hs:Seg κ xs b (b+n))(hd:kindOf st=kd){Q:Option Nat->SortSt->Prop}
  (h:∀m,m<=n->(∀i,i<m->pass κ left k xs (b+i)=true)->(∀i,m<=i->i<n->pass κ left k xs (b+i)=false)->Q (some m) st):wpS M A E s (lU left x xs b n hint) Q st:=by
 have up:∀i j,i<=j->j<n->pass κ left k xs (b+j)=true->pass κ left k xs (b+i)=true:=fun i j h1 h2=>AI (hs _ _ (by lia) (by lia) (by lia));have dn:∀i j,i<=j->j<n->pass κ left k xs (b+i)=false->pass κ left k xs (b+j)=false:=fun i j h1 h2 h3=>by
  cases e:pass κ left k xs (b+j)
  ·rfl
  ·rw[up i j h1 h2 e]at h3;cases h3
 rw[L_];dsimp only;refine wpS_bind (r8 hL hx hk (by lia) hd ?_);dsimp only;cases hc:pass κ left k xs (b+hint)
 case true=>
  rw[if_pos rfl];refine wpS_bind (wpS_mono (wpS_forRange (I:=fun i c st'=>∃ l o,c=(none,l,o)∧st'=st∧i+1≤o∧l<o∧hint+l<n∧pass κ left k xs (b+(hint+l))=true)
   (Q:=fun c st'=>∃l o,c=(none,l,o)/\st'=st/\l<o/\hint+l<n/\pass κ left k xs (b+(hint+l))=true/\(o<n-hint->pass κ left k xs (b+(hint+o))=false)) ?s1 ?f1 ⟨0,1,rfl,rfl,by lia,by lia,by lia,hc⟩) ?p1)
  case f1=>rintro c st' ⟨l,o,rfl,rfl,h1,h2,h3,h4⟩;exact⟨l,o,rfl,rfl,h2,h3,h4,fun z=>by lia⟩
  case s1=>
   rintro i c st' _ hi ⟨l,o,rfl,rfl,h1,h2,h3,h4⟩;dsimp only;by_cases ho:o≥n-hint
   ·rw[if_pos ho];exact wpS_pure ⟨l,o,rfl,rfl,h2,h3,h4,fun z=>by lia⟩
   ·rw[if_neg ho];refine wpS_bind (r8 hL hx hk (by lia) hd ?_);dsimp only;cases hp:pass κ left k xs (b+(hint+o))
    case false=>rw[if_pos (by decide)];exact wpS_pure ⟨l,o,rfl,rfl,h2,h3,h4,fun _=>hp⟩
    case true=>rw[if_neg (by decide)];exact wpS_pure ⟨o,2*o+1,rfl,rfl,by lia,by lia,by lia,hp⟩
  case p1=>
   rintro c st' ⟨l,o,rfl,rfl,h2,h3,h4,h5⟩;dsimp only;refine CJ hL hx hk hb hd up dn (u0:=hint+l+1) (v0:=hint+min o (n-hint)) (by lia) (by lia) (fun j hj=>up j _ (by lia) h3 h4) (fun j hj hj2=>?_) h;by_cases ho:o<n-hint
   ·exact dn (hint+o) j (by lia) hj2 (h5 ho)
   ·lia
 case false=>
  rw[if_neg (by decide)];refine wpS_bind (wpS_mono (wpS_forRange (I:=fun i c st'=>∃ l o,c=(none,l,o)∧st'=st∧i+1≤o∧l<o∧l≤hint∧pass κ left k xs (b+(hint-l))=false)
   (Q:=fun c st'=>∃l o,c=(none,l,o)/\st'=st/\l<o/\l<=hint/\pass κ left k xs (b+(hint-l))=false/\(o<hint+1->pass κ left k xs (b+(hint-o))=true)) ?s2 ?f2 ⟨0,1,rfl,rfl,by lia,by lia,by lia,hc⟩) ?p2)
  case f2=>rintro c st' ⟨l,o,rfl,rfl,h1,h2,h3,h4⟩;exact⟨l,o,rfl,rfl,h2,h3,h4,fun z=>by lia⟩
  case s2=>
   rintro i c st' _ hi ⟨l,o,rfl,rfl,h1,h2,h3,h4⟩;dsimp only;by_cases ho:o≥hint+1
   ·rw[if_pos ho];exact wpS_pure ⟨l,o,rfl,rfl,h2,h3,h4,fun z=>by lia⟩
   ·rw[if_neg ho];refine wpS_bind (r8 hL hx hk (by lia) hd ?_);dsimp only;cases hp:pass κ left k xs (b+(hint-o))
    case true=>rw[if_pos rfl];exact wpS_pure ⟨l,o,rfl,rfl,h2,h3,h4,fun _=>hp⟩
    case false=>rw[if_neg (by decide)];exact wpS_pure ⟨o,2*o+1,rfl,rfl,by lia,by lia,by lia,hp⟩
  case p2=>
   rintro c st' ⟨l,o,rfl,rfl,h2,h3,h4,h5⟩;dsimp only;refine CJ hL hx hk hb hd up dn (u0:=hint+1-min o (hint+1)) (v0:=hint-l) (by lia) (by lia) (fun j hj=>?_) (fun j hj hj2=>dn _ j hj hj2 h4) h;by_cases ho:o<hint+1
   ·exact up j (hint-o) (by lia) (by lia) (h5 ho)
   ·lia
end Ts
namespace Ts
open PySem PyProof.Rows
variable{M:Model}{A:Around}{E:Value->Shared->Prop}{s:Shared}{κ:KeyKind}{kd:SortKind}{a₀:Array Keyed}
section
variable{i:Nat}
noncomputable def Ma:Array Keyed->Array Keyed->StateT SortSt Sem (Array Keyed):=sortPriv% PySem.Builtin.mergeLo
noncomputable def Mb:Array Keyed->Array Keyed->StateT SortSt Sem (Array Keyed):=sortPriv% PySem.Builtin.mergeHi
noncomputable def setG(st:SortSt)(g:Nat):SortSt:=VS (kindOf st) (arrOf st) (pendingOf st) g (failedOf st)
noncomputable def pY(g:Nat):StateT SortSt Sem Unit:=modify fun st=>VS (kindOf st) (arrOf st) (pendingOf st) g (failedOf st)
theorem Mc(a b:Array Keyed):Ma a b=(do
  rule "list.sort.merge-lo"
  let t:=a.size+b.size
  let dn (o:Array Keyed) (i j:Nat):=o++a.extract i a.size++b.extract j b.size
  let la (o:Array Keyed) (i j:Nat):=o++b.extract j b.size++a.extract i a.size
  let mut o:Array Keyed:=#[<- elem' b 0]
  let mut i:=0
  let mut j:=1
  if j == b.size then return dn o i j
  if i+1 == a.size then return la o i j
  let mut g:=gallopOf (<- get)
  for _ in [0:t] do
   let mut ca:=0
   let mut cb:=0
   for _ in [0:t] do
    let some Me <- lt' (<- elem' b j) (<- elem' a i)
     |return dn o i j
    if Me then
     o:=o.push (<- elem' b j)
     j:=j+1
     cb:=cb+1
     ca:=0
     if j == b.size then return dn o i j
     if cb≥g then break
    else
     o:=o.push (<- elem' a i)
     i:=i+1
     ca:=ca+1
     cb:=0
     if i+1 == a.size then return la o i j
     if ca≥g then break
   rule "list.sort.gallop"
   g:=g+1
   for _ in [0:t] do
    if g>1 then g:=g-1
    pY g
    let some k <- lU false (<- elem' b j) a i (a.size-i) 0
     |return dn o i j
    ca:=k
    if k>0 then
     o:=o++a.extract i (i+k)
     i:=i+k
     if i+1 == a.size then return la o i j
     if i == a.size then return dn o i j
    o:=o.push (<- elem' b j)
    j:=j+1
    if j == b.size then return dn o i j
    let some k <- lU true (<- elem' a i) b j (b.size-j) 0
     |return dn o i j
    cb:=k
    if k>0 then
     o:=o++b.extract j (j+k)
     j:=j+k
     if j == b.size then return dn o i j
    o:=o.push (<- elem' a i)
    i:=i+1
    if i+1 == a.size then return la o i j
    if ca<7&&cb<7 then break
   g:=g+1
   pY g
  unsupported "internal:list.sort.merge-bound"):=rfl
noncomputable def kp(κ:KeyKind)(p:Keyed):κ.α:=(κ.keyOf p.1).getD κ.dflt
def le(κ:KeyKind)(x y:Keyed):Prop:=κ.kle (kp κ x) (kp κ y)
structure MI(κ:KeyKind)(o A B tot:List Keyed):Prop where
 so:o.Pairwise (le κ)
 oA:∀x∈o,∀y∈A,le κ x y
 oB:∀x∈o,∀y∈B,le κ x y
 sA:A.Pairwise (le κ)
 sB:B.Pairwise (le κ)
 pm:(o++(A++B)).Perm tot
def Done(κ:KeyKind)(tot r:List Keyed):Prop:=r.Perm tot/\r.Pairwise (le κ)
theorem MI.Mf{o A1 A2 B tot:List Keyed}(h:MI κ o (A1++A2) B tot)(hl:∀x∈A1,∀y∈B,le κ x y):MI κ (o++A1) A2 B tot where
 so:=Ud.mpr ⟨h.so,(Ud.mp h.sA).1,fun x hx y hy=>h.oA x hx y (UQ _ hy)⟩
 oA:=fun x hx y hy=>by
  rcases T9.mp hx with hx | hx
  ·exact h.oA x hx y (TY _ hy)
  ·exact(Ud.mp h.sA).2.2 x hx y hy
 oB:=fun x hx y hy=>by
  rcases T9.mp hx with hx | hx
  ·exact h.oB x hx y hy
  ·exact hl x hx y hy
 sA:=(Ud.mp h.sA).2.1
 sB:=h.sB
 pm:=by
  have:=h.pm
  rwa [UU,<- UU A1] 
theorem MI.swap{o A B tot:List Keyed}(h:MI κ o A B tot):MI κ o B A tot:=⟨h.so,h.oB,h.oA,h.sB,h.sA,(VO.append_left o List.perm_append_comm).trans h.pm⟩
theorem MI.Mg{o A B1 B2 tot:List Keyed}(h:MI κ o A (B1++B2) tot)(hl:∀x∈B1,∀y∈A,le κ x y):MI κ (o++B1) A B2 tot:=(h.swap.Mf hl).swap
theorem MI.AJ{o A tot:List Keyed}(h:MI κ o A [] tot):Done κ tot (o++A):=⟨by have:=h.pm;rwa [Uc]at this,Ud.mpr ⟨h.so,h.sA,h.oA⟩⟩
theorem MI.GL{o B tot:List Keyed}(h:MI κ o [] B tot):Done κ tot (o++B):=h.swap.AJ
theorem MI.CK{o A B tot:List Keyed}(h:MI κ o A B tot)(hl:∀x∈B,∀y∈A,le κ x y):Done κ tot (o++B++A):=
 (MI.Mg (B2:=[]) (by rw[Uc];exact h) hl).AJ
theorem lZ{a:Array Keyed}(h:i<a.size):a.toList.drop i=a[i]::a.toList.drop (i+1):=by rw[Uz (by rw[TH];exact h)];simp
theorem nh{a:Array Keyed}{i k:Nat}:a.toList.drop i=(a.extract i (i+k)).toList++a.toList.drop (i+k):=by rw[UT,UA,show i+k-i=k by lia,<- List.drop_drop];exact(Vk k _).symm
theorem e_{a:Array Keyed}:(a.extract i a.size).toList=a.toList.drop i:=by rw[UT,UA,UZ];rw[V4,TH];exact Nat.le_refl _
theorem bC{a:Array Keyed}(h:i<a.size):elem' a i=pure a[i]:=by rw[elem'_eq,getElem?_pos a i h]
theorem aV{xs:Array Keyed}(hk:KeysOf κ xs)(h:i<xs.size):κ.keyOf (xs[i]).1=some (kp κ xs[i])/\KK κ xs i=kp κ xs[i]:=by
 obtain⟨p,e,k⟩:=rY hk h;rw[getElem?_pos xs i h]at e;cases e;have:KK κ xs i=kp κ xs[i]:=by unfold kp;rw[k];rfl
 exact⟨by rw[k,this],this⟩
theorem CL{xs:Array Keyed}(hk:KeysOf κ xs)(h:xs.toList.Pairwise (le κ)):Seg κ xs 0 xs.size:=fun p q _ h2 h3=>by
 rw[(aV hk (i:=p) (by lia)).2,(aV hk h3).2];by_cases e:p=q
 ·subst e;exact UC _
 ·have:=VL.mp h p q (by simp;lia) (by simpa using h3) (by lia);have dR:le κ xs[p] xs[q]:=by simpa using this
  exact dR
theorem le_trans{x y z:Keyed}(h:le κ x y)(h':le κ y z):le κ x z:=UO h h'
theorem le_refl(x:Keyed):le κ x x:=UC _
theorem gA{a:Array Keyed}(h:i<a.size)(hs:(a.toList.drop i).Pairwise (le κ)):∀y∈a.toList.drop i,le κ a[i] y:=fun y hy=>by
 rw[lZ h]at hs hy;rcases Tp.mp hy with rfl | hy
 ·exact le_refl _
 ·exact(Ux.mp hs).1 y hy
end
end Ts
namespace Ts
open PySem PyProof.Rows
variable{A:Around}{E:Value->Shared->Prop}{s:Shared}{κ:KeyKind}{kd:SortKind}{a₀:Array Keyed}{prog:Program}{w:World}
section
variable{a b:Array Keyed}
section
variable{i j:Nat}
def IM(κ:KeyKind)(a b o:Array Keyed)(i j:Nat):Prop:=i+1<a.size/\j<b.size/\MI κ o.toList (a.toList.drop i) (b.toList.drop j) (a.toList++b.toList)
theorem fW{x:Array Keyed}{i:Nat}(h:x.size<=i):x.toList.drop i=[]:=List.drop_eq_nil_of_le (by rw[TH];exact h)
theorem l6{o:Array Keyed}(h:MI κ o.toList (a.toList.drop i) (b.toList.drop j) (a.toList++b.toList))(hj:j=b.size):Done κ (a.toList++b.toList) (o++a.extract i a.size++b.extract j b.size).toList:=by rw[T5,T5,e_,e_];rw[fW (x:=b) (by lia)]at h ⊢;rw[Uc];exact h.AJ
theorem GN{o:Array Keyed}(h:MI κ o.toList (a.toList.drop i) (b.toList.drop j) (a.toList++b.toList))(hi:i=a.size):Done κ (a.toList++b.toList) (o++a.extract i a.size++b.extract j b.size).toList:=by rw[T5,T5,e_,e_];rw[fW (x:=a) (by lia)]at h ⊢;rw[Uc];exact h.GL
theorem r9{o:Array Keyed}(ha:1<=a.size)(last:∀y∈b.toList,le κ y (a[a.size-1]'(by lia)))(h:MI κ o.toList (a.toList.drop i) (b.toList.drop j) (a.toList++b.toList))(hi:i+1=a.size):Done κ (a.toList++b.toList) (o++b.extract j b.size++a.extract i a.size).toList:=by
 rw[T5,T5,e_,e_];refine h.CK fun x hx y hy=>?_;rw[lZ (by lia),fW (x:=a) (by lia)]at hy;rw[TJ]at hy;subst hy;have:=last x (List.mem_of_mem_drop hx)
 rwa [show a[a.size-1]'(by lia)=a[i]'(by lia) by congr 1;lia]at this
theorem xo{o:Array Keyed}(hj:j<b.size)(h:MI κ o.toList (a.toList.drop i) (b.toList.drop j) (a.toList++b.toList))(hl:∀y∈a.toList.drop i,le κ b[j] y):MI κ (o.push b[j]).toList (a.toList.drop i) (b.toList.drop (j+1)) (a.toList++b.toList):=by rw[Vz];rw[lZ hj]at h;exact MI.Mg (B1:=[b[j]]) h fun x hx y hy=>by rw[TJ]at hx;subst hx;exact hl y hy
theorem CM{o:Array Keyed}(hi:i<a.size)(h:MI κ o.toList (a.toList.drop i) (b.toList.drop j) (a.toList++b.toList))(hl:∀y∈b.toList.drop j,le κ a[i] y):MI κ (o.push a[i]).toList (a.toList.drop (i+1)) (b.toList.drop j) (a.toList++b.toList):=by rw[Vz];rw[lZ hi]at h;exact MI.Mf (A1:=[a[i]]) h fun x hx y hy=>by rw[TJ]at hx;subst hx;exact hl y hy
theorem bF{x:Array Keyed}{i k:Nat}{p:Keyed}(h:p∈(x.extract i (i+k)).toList):∃m,m<k/\∃hm:i+m<x.size,p=x[i+m]:=by obtain⟨n,hn,e⟩:=Wh h;rw[TH,Vx]at hn;refine⟨n,by lia,by lia,?_⟩;rw[<- e];simp
theorem uC{x:Array Keyed}(hk:KeysOf κ x)(h:x.toList.Pairwise (le κ)){i:Nat}(hi:i<=x.size):Seg κ x i (i+(x.size-i)):=fun p q h1 h2 h3=>CL hk h p q (by lia) h2 (by lia)
noncomputable abbrev GO:=Option (Array Keyed)×Array Keyed×Nat×Nat×Nat×Nat×Nat
noncomputable def lA(a b o:Array Keyed)(i j g ca k:Nat):StateT SortSt Sem (ForInStep GO):=do
 let z <- elem' a i
 if i+1+1 == a.size then pure (ForInStep.done (some (o.push z++b.extract j b.size++a.extract (i+1) a.size),o.push z,i+1,j,g,ca,k))
 else if ca<7&&k<7 then pure (ForInStep.done (none,o.push z,i+1,j,g,ca,k))
 else pure (UK (none,o.push z,i+1,j,g,ca,k))
noncomputable def lB(a b o:Array Keyed)(i j g ca cb:Nat):StateT SortSt Sem (ForInStep GO):=do
 let z <- elem' b j
 if j+1 == b.size then pure (ForInStep.done (some (o.push z++a.extract i a.size++b.extract (j+1) b.size),o.push z,i,j+1,g,ca,cb))
 else do
  let y <- elem' a i
  let r <- lU true y b (j+1) (b.size-(j+1)) 0
  match r with
   |some k=>
    if k>0 then
     if j+1+k == b.size then pure (ForInStep.done (some (o.push z++b.extract (j+1) (j+1+k)++a.extract i a.size++b.extract (j+1+k) b.size),o.push z++b.extract (j+1) (j+1+k),i,j+1+k,g,ca,k))
     else lA a b (o.push z++b.extract (j+1) (j+1+k)) i (j+1+k) g ca k
    else lA a b (o.push z) i (j+1) g ca k
   |x=>pure (ForInStep.done (some (o.push z++a.extract i a.size++b.extract (j+1) b.size),o.push z,i,j+1,g,ca,cb))
noncomputable def lC(a b o:Array Keyed)(i j g ca cb:Nat):StateT SortSt Sem (ForInStep GO):=do
 pY g
 let z <- elem' b j
 let r <- lU false z a i (a.size-i) 0
 match r with
  |some k=>
   if k>0 then
    if i+k+1 == a.size then pure (ForInStep.done (some (o++a.extract i (i+k)++b.extract j b.size++a.extract (i+k) a.size),o++a.extract i (i+k),i+k,j,g,k,cb))
    else if i+k == a.size then pure (ForInStep.done (some (o++a.extract i (i+k)++a.extract (i+k) a.size++b.extract j b.size),o++a.extract i (i+k),i+k,j,g,k,cb))
    else lB a b (o++a.extract i (i+k)) (i+k) j g k cb
   else lB a b o i j g k cb
  |x=>pure (ForInStep.done (some (o++a.extract i a.size++b.extract j b.size),o,i,j,g,ca,cb))
def GP(κ:KeyKind)(a b:Array Keyed)(N:Nat)(st:SortSt)(r:ForInStep GO)(st':SortSt):Prop:=(∃g',st'=setG st g')/\match r with
 |.done c=>(∃r z,c=(some r,z)/\Done κ (a.toList++b.toList) r.toList)\/∃o i j g ca cb,c=(none,o,i,j,g,ca,cb)/\IM κ a b o i j/\N<=o.size
 |.yield c=>∃o i j g ca cb,c=(none,o,i,j,g,ca,cb)/\IM κ a b o i j/\N<=o.size
theorem Je{M:Model}{o:Array Keyed}{i j g ca k N:Nat}{st st':SortSt}(ha:1<=a.size)(last:∀y∈b.toList,le κ y (a[a.size-1]'(by lia)))(hs:∃g',st'=setG st g')(hi:i+1<a.size)(hj:j<b.size)
  (mi:MI κ o.toList (a.toList.drop i) (b.toList.drop j) (a.toList++b.toList)) (hl:∀y∈b.toList.drop j,le κ (a[i]'(by lia)) y) (hN:N<=o.size):wpS M A E s (lA a b o i j g ca k) (GP κ a b N st) st':=by
 unfold lA;rw[bC (a:=a) (i:=i) (by lia)];refine wpS_bind (wpS_pure ?_);have mi2:=CM (by lia) mi hl;by_cases h1:i+1+1=a.size
 ·rw[if_pos (by simpa using h1)];exact wpS_pure ⟨hs,.inl ⟨_,_,rfl,r9 ha last mi2 h1⟩⟩
 ·rw[if_neg (by simpa using h1)];have im:IM κ a b (o.push (a[i]'(by lia))) (i+1) j:=⟨by lia,hj,mi2⟩
  split
  ·exact wpS_pure ⟨hs,.inr ⟨_,_,_,_,_,_,rfl,im,by rw[Uh];lia⟩⟩
  ·exact wpS_pure ⟨hs,⟨_,_,_,_,_,_,rfl,im,by rw[Uh];lia⟩⟩
theorem Jf{M:Model}(hL:d7 M A E s κ kd)(ka:KeysOf κ a)(kb:KeysOf κ b)(sb:b.toList.Pairwise (le κ)){o:Array Keyed}{i j g ca cb N:Nat}{st st':SortSt}(ha:1<=a.size)(last:∀y∈b.toList,le κ y (a[a.size-1]'(by lia)))(hd:kindOf st=kd)(hs:∃g',st'=setG st g')(hi:i+1<a.size)(hj:j<b.size)
  (mi:MI κ o.toList (a.toList.drop i) (b.toList.drop j) (a.toList++b.toList)) (hl:∀y∈a.toList.drop i,le κ b[j] y) (hN:N<=o.size):wpS M A E s (lB a b o i j g ca cb) (GP κ a b N st) st':=by
 unfold lB;rw[bC hj];refine wpS_bind (wpS_pure ?_);have mi2:=xo hj mi hl;by_cases h1:j+1=b.size
 ·rw[if_pos (by simpa using h1)];exact wpS_pure ⟨hs,.inl ⟨_,_,rfl,l6 mi2 h1⟩⟩
 rw[if_neg (by simpa using h1),bC (a:=a) (i:=i) (by lia)];refine wpS_bind (wpS_pure ?_);obtain⟨g',rfl⟩:=hs;refine wpS_bind (kL (b:=j+1) (n:=b.size-(j+1)) (hint:=0) hL (aV ka (i:=i) (by lia)).1 kb (by lia) (by lia) (uC kb sb (by lia)) (st:=setG st g') hd fun k hk h2 h3=>?_)
 try dsimp only
 have le1:∀x∈(b.extract (j+1) (j+1+k)).toList,∀y∈a.toList.drop i,le κ x y:=fun x hx y hy=>by obtain⟨m,hm,hm2,rfl⟩:=bF hx;have:=h2 m hm;unfold pass at this;rw[if_pos rfl,(aV kb hm2).2]at this;exact le_trans (Ur this) (gA (by lia) mi.sA y hy)
 have le2:∀y∈b.toList.drop (j+1+k),le κ (a[i]'(by lia)) y:=fun y hy=>by
  by_cases En:j+1+k<b.size
  ·have:=h3 k (Nat.le_refl _) (by lia);unfold pass at this;rw[if_pos rfl,(aV kb En).2]at this;refine le_trans this (gA En ?_ y hy);exact WE.sublist (List.drop_sublist _ _) sb
  ·rw[fW (by lia)]at hy;cases hy
 by_cases hk0:k>0
 ·rw[if_pos hk0];have mi3:MI κ (o.push b[j]++b.extract (j+1) (j+1+k)).toList (a.toList.drop i) (b.toList.drop (j+1+k)) (a.toList++b.toList):=by
   rw[T5];rw[nh (a:=b) (i:=j+1) (k:=k)]at mi2;exact mi2.Mg le1
  by_cases h4:j+1+k=b.size
  ·rw[if_pos (by simpa using h4)];exact wpS_pure ⟨⟨_,rfl⟩,.inl ⟨_,_,rfl,l6 mi3 h4⟩⟩
  ·rw[if_neg (by simpa using h4)];exact Je ha last ⟨_,rfl⟩ hi (by lia) mi3 le2 (by rw[VX,Uh];lia)
 ·rw[if_neg hk0];have:k=0:=by lia
  subst this;exact Je ha last ⟨_,rfl⟩ hi (by lia) mi2 le2 (by rw[Uh];lia)
theorem Py{M:Model}(hL:d7 M A E s κ kd)(ka:KeysOf κ a)(kb:KeysOf κ b)(sa:a.toList.Pairwise (le κ))(sb:b.toList.Pairwise (le κ)){o:Array Keyed}{i j g ca cb N:Nat}{st st':SortSt}(ha:1<=a.size)(last:∀y∈b.toList,le κ y (a[a.size-1]'(by lia)))(hd:kindOf st=kd)(hs:∃g',st'=setG st g')
  (im:IM κ a b o i j) (hN:N<=o.size):wpS M A E s (lC a b o i j g ca cb) (GP κ a b N st) st':=by
 obtain⟨hi,hj,mi⟩:=im;obtain⟨g',rfl⟩:=hs;unfold lC;refine wpS_bind ?_;unfold pY;refine wpS_modify ?_;rw[bC hj];refine wpS_bind (wpS_pure ?_);refine wpS_bind (kL (b:=i) (n:=a.size-i) (hint:=0) hL (aV kb hj).1 ka (by lia) (by lia) (uC ka sa (by lia)) (st:=setG st g) hd fun k hk h2 h3=>?_)
 try dsimp only
 have le1:∀x∈(a.extract i (i+k)).toList,∀y∈b.toList.drop j,le κ x y:=fun x hx y hy=>by
  obtain⟨m,hm,hm2,rfl⟩:=bF hx;have:=h2 m hm;unfold pass at this;rw[if_neg (by decide),(aV ka hm2).2]at this;have dR:κ.blt (kp κ b[j]) (kp κ a[i+m])=false:=by simpa using this
  exact le_trans dR (gA hj mi.sB y hy)
 have le2:∀y∈a.toList.drop (i+k),le κ b[j] y:=fun y hy=>by
  by_cases En:i+k<a.size
  ·have:=h3 k (Nat.le_refl _) (by lia);unfold pass at this;rw[if_neg (by decide),(aV ka En).2]at this;have dR:κ.blt (kp κ b[j]) (kp κ a[i+k])=true:=by simpa using this
   refine le_trans (Ur dR) (gA En ?_ y hy);exact WE.sublist (List.drop_sublist _ _) sa
  ·rw[fW (by lia)]at hy;cases hy
 by_cases hk0:k>0
 ·rw[if_pos hk0];have mi3:MI κ (o++a.extract i (i+k)).toList (a.toList.drop (i+k)) (b.toList.drop j) (a.toList++b.toList):=by
   rw[T5];rw[nh (a:=a) (i:=i) (k:=k)]at mi;exact mi.Mf le1
  by_cases h4:i+k+1=a.size
  ·rw[if_pos (by simpa using h4)];exact wpS_pure ⟨⟨_,rfl⟩,.inl ⟨_,_,rfl,r9 ha last mi3 h4⟩⟩
  rw[if_neg (by simpa using h4)];by_cases h5:i+k=a.size
  ·rw[if_pos (by simpa using h5)];exact wpS_pure ⟨⟨_,rfl⟩,.inl ⟨_,_,rfl,GN mi3 h5⟩⟩
  rw[if_neg (by simpa using h5)];exact Jf hL ka kb sb ha last hd ⟨_,rfl⟩ (by lia) hj mi3 le2 (by rw[VX];lia)
 ·rw[if_neg hk0];have:k=0:=by lia
  subst this;exact Jf hL ka kb sb ha last hd ⟨_,rfl⟩ hi hj mi le2 hN
theorem Mh(hL:d7 (model prog w) A E s κ kd)(ka:KeysOf κ a)(kb:KeysOf κ b)(sa:a.toList.Pairwise (le κ))(sb:b.toList.Pairwise (le κ))(ha:1<=a.size)(hb:1<=b.size)
  (first:∀y∈a.toList,le κ (b[0]'(by lia)) y) (last:∀y∈b.toList,le κ y (a[a.size-1]'(by lia))) {st:SortSt} (hd:kindOf st=kd) {Q:Array Keyed->SortSt->Prop}
  (h:∀r g,Done κ (a.toList++b.toList) r.toList->Q r (setG st g)):wpS (model prog w) A E s (Ma a b) Q st:=by
 rw[Mc];refine wpS_bind (wpS_lift (wpAny_rule ⟨rfl,?_⟩))
 try dsimp only
 rw[bC (a:=b) (i:=0) (by lia)];refine wpS_bind (wpS_pure ?_)
 try dsimp only
 have m0:MI κ (#[]:Array Keyed).toList (a.toList.drop 0) (b.toList.drop 0) (a.toList++b.toList):=⟨by simp,by simp,by simp,by simpa using sa,by simpa using sb,by simp⟩
 have m1:MI κ (#[b[0]'(by lia)]:Array Keyed).toList (a.toList.drop 0) (b.toList.drop 1) (a.toList++b.toList):=xo (o:=#[]) (j:=0) (by lia) m0 (by simpa using first);have same:setG st (gallopOf st)=st:=rfl;by_cases hb1:1=b.size
 ·rw[if_pos (by simpa using hb1)];exact wpS_pure (same▸h _ (gallopOf st) (l6 m1 hb1))
 rw[if_neg (by simpa using hb1)];by_cases ha1:0+1=a.size
 ·rw[if_pos (by simpa using ha1)];exact wpS_pure (same▸h _ (gallopOf st) (r9 ha last m1 ha1))
 rw[if_neg (by simpa using ha1)];refine wpS_bind (wpS_get ?_)
 try dsimp only
 have len:∀{o:Array Keyed} {i j:Nat},IM κ a b o i j->o.size<a.size+b.size:=fun {o i j} ⟨h1,h2,h3⟩=>by
  have:=h3.pm.length_eq;simp only[Tz,TH,V4]at this
  lia
 refine wpS_bind (wpS_mono (wpS_forRange (I:=fun x c st'=>∃ o i j g,c=(none,o,i,j,g)∧(∃ g',st'=setG st g')∧IM κ a b o i j∧x+1≤o.size)
  (Q:=fun c st'=>∃r z,c=(some r,z)/\(∃g',st'=setG st g')/\Done κ (a.toList++b.toList) r.toList) ?st1 ?fi1 ⟨_,0,1,_,rfl,⟨gallopOf st,rfl⟩,⟨by lia,by lia,m1⟩,by simp⟩) ?po1)
 case fi1=>
  rintro c st' ⟨o,i,j,g,rfl,_,im,hsz⟩;have:=len im
  lia
 case po1=>rintro c st' ⟨r,z,rfl,⟨g',rfl⟩,hdn⟩;exact wpS_pure (h r g' hdn)
 case st1=>
  rintro x c st' _ hx ⟨o,i,j,g,rfl,⟨g',rfl⟩,im,hsz⟩
  try dsimp only
  refine wpS_bind (wpS_mono (wpS_forRange (I:=fun y c st''=>∃ o' i' j' ca cb,c=(none,o',i',j',ca,cb)∧st''=setG st g'∧IM κ a b o' i' j'∧o.size+y≤o'.size)
   (Q:=fun c st''=>st''=setG st g'/\((∃r z,c=(some r,z)/\Done κ (a.toList++b.toList) r.toList)\/∃o' i' j' ca cb,c=(none,o',i',j',ca,cb)/\IM κ a b o' i' j'/\o.size+1<=o'.size)) ?st2 ?fi2 ⟨o,i,j,0,0,rfl,rfl,im,by lia⟩) ?po2)
  case fi2=>rintro c st'' ⟨o',i',j',ca,cb,rfl,rfl,im',hs'⟩;exact⟨rfl,.inr ⟨o',i',j',ca,cb,rfl,im',by lia⟩⟩
  case st2=>
   rintro y c st'' _ hy ⟨o',i',j',ca,cb,rfl,rfl,⟨hi',hj',mi⟩,hs'⟩
   try dsimp only
   rw[bC hj',bC (a:=a) (i:=i') (by lia)];refine wpS_bind (wpS_pure (wpS_bind (wpS_pure ?_)));obtain⟨kb1,_⟩:=aV kb hj';obtain⟨ka1,_⟩:=aV ka (i:=i') (by lia);refine wpS_bind (hL _ _ _ _ _ _ kb1 ka1 hd ?_)
   try dsimp only
   cases hw:κ.blt (kp κ b[j']) (kp κ (a[i']'(by lia)))
   case true=>
    rw[if_pos rfl];refine wpS_bind (wpS_pure ?_)
    try dsimp only
    have mi2:=xo hj' mi fun y hy=>le_trans (Ur hw) (gA (by lia) mi.sA y hy);by_cases hjb:j'+1=b.size
    ·rw[if_pos (by simpa using hjb)];exact wpS_pure ⟨rfl,.inl ⟨_,_,rfl,l6 mi2 hjb⟩⟩
    rw[if_neg (by simpa using hjb)];by_cases hg:cb+1≥g
    ·rw[if_pos hg];exact wpS_pure ⟨rfl,.inr ⟨_,_,_,_,_,rfl,⟨hi',by lia,mi2⟩,by rw[Uh];lia⟩⟩
    ·rw[if_neg hg];exact wpS_pure ⟨_,_,_,_,_,rfl,rfl,⟨hi',by lia,mi2⟩,by rw[Uh];lia⟩
   case false=>
    rw[if_neg (by decide)];refine wpS_bind (wpS_pure ?_)
    try dsimp only
    have mi2:=CM (by lia) mi fun y hy=>le_trans hw (gA hj' mi.sB y hy);by_cases hia:i'+1+1=a.size
    ·rw[if_pos (by simpa using hia)];exact wpS_pure ⟨rfl,.inl ⟨_,_,rfl,r9 ha last mi2 hia⟩⟩
    rw[if_neg (by simpa using hia)];by_cases hg:ca+1≥g
    ·rw[if_pos hg];exact wpS_pure ⟨rfl,.inr ⟨_,_,_,_,_,rfl,⟨by lia,hj',mi2⟩,by rw[Uh];lia⟩⟩
    ·rw[if_neg hg];exact wpS_pure ⟨_,_,_,_,_,rfl,rfl,⟨by lia,hj',mi2⟩,by rw[Uh];lia⟩
  case po2=>
   rintro c st'' ⟨rfl,⟨r,z,rfl,hdn⟩ | ⟨o',i',j',ca,cb,rfl,im',hs'⟩⟩
   ·dsimp only;exact wpS_pure ⟨r,_,rfl,⟨_,rfl⟩,hdn⟩
   try dsimp only
   refine wpS_bind (wpS_lift (wpAny_rule ⟨rfl,?_⟩));refine wpS_bind (wpS_mono (wpS_forRange (I:=fun y c st''=>∃ o2 i2 j2 g2 ca cb,c=(none,o2,i2,j2,g2,ca,cb)∧(∃ g',st''=setG st g')∧IM κ a b o2 i2 j2∧o.size+1≤o2.size)
    (Q:=fun c st''=>(∃g',st''=setG st g')/\((∃r z,c=(some r,z)/\Done κ (a.toList++b.toList) r.toList)\/∃o2 i2 j2 g2 ca cb,c=(none,o2,i2,j2,g2,ca,cb)/\IM κ a b o2 i2 j2/\o.size+1<=o2.size)) ?st3 ?fi3 ⟨o',i',j',_,_,_,rfl,⟨_,rfl⟩,im',hs'⟩) ?po3)
   case fi3=>rintro c st'' ⟨o2,i2,j2,g2,ca,cb,rfl,hg,im2,hs2⟩;exact⟨hg,.inr ⟨o2,i2,j2,g2,ca,cb,rfl,im2,hs2⟩⟩
   case po3=>
    rintro c st'' ⟨⟨g3,rfl⟩,⟨r,z,rfl,hdn⟩ | ⟨o2,i2,j2,g2,ca,cb,rfl,im2,hs2⟩⟩
    ·dsimp only;exact wpS_pure ⟨r,_,rfl,⟨_,rfl⟩,hdn⟩
    ·dsimp only;refine wpS_bind ?_;unfold pY;exact wpS_modify (wpS_pure ⟨o2,i2,j2,_,rfl,⟨_,rfl⟩,im2,by lia⟩)
   case st3=>
    rintro y c st'' _ hy ⟨o2,i2,j2,g2,ca,cb,rfl,⟨g3,rfl⟩,⟨hi2,hj2,mi⟩,hs2⟩;show wpS _ _ _ _ (if g2>1 then lC a b o2 i2 j2 (g2-1) ca cb else lC a b o2 i2 j2 g2 ca cb) _ _;have HB:∀g,wpS (model prog w) A E s (lC a b o2 i2 j2 g ca cb) (GP κ a b (o.size+1) st) (setG st g3):=fun g=>Py hL ka kb sa sb ha last hd ⟨_,rfl⟩ ⟨hi2,hj2,mi⟩ hs2;split
    all_goals
     refine wpS_mono (HB _) fun r st' hG=>?_;cases r with
     |done c=>exact hG
     |yield c=>obtain⟨hg,o,i,j,g,ca,cb,e,im,hz⟩:=hG;exact⟨o,i,j,g,ca,cb,e,hg,im,hz⟩
end
end
end Ts
namespace Ts
open PySem PyProof.Rows
variable{A:Around}{E:Value->Shared->Prop}{s:Shared}{κ:KeyKind}{kd:SortKind}{a₀:Array Keyed}{prog:Program}{w:World}
theorem Mi(a b:Array Keyed):Mb a b=(do
  rule "list.sort.merge-hi"
  let t:=a.size+b.size
  let dn (o:Array Keyed) (p q:Nat):=a.extract 0 p++b.extract 0 q++o.reverse
  let fb (o:Array Keyed) (p q:Nat):=b.extract 0 q++a.extract 0 p++o.reverse
  let mut p:=a.size-1
  let mut q:=b.size
  let mut o:Array Keyed:=#[<- elem' a p]
  if p == 0 then return dn o p q
  if q == 1 then return fb o p q
  let mut g:=gallopOf (<- get)
  for _ in [0:t] do
   let mut ca:=0
   let mut cb:=0
   for _ in [0:t] do
    let some Me <- lt' (<- elem' b (q-1)) (<- elem' a (p-1))
     |return dn o p q
    if Me then
     p:=p-1
     o:=o.push (<- elem' a p)
     ca:=ca+1
     cb:=0
     if p == 0 then return dn o p q
     if ca≥g then break
    else
     q:=q-1
     o:=o.push (<- elem' b q)
     cb:=cb+1
     ca:=0
     if q == 1 then return fb o p q
     if cb≥g then break
   rule "list.sort.gallop"
   g:=g+1
   for _ in [0:t] do
    if g>1 then g:=g-1
    pY g
    let some z <- lU false (<- elem' b (q-1)) a 0 p (p-1)
     |return dn o p q
    let k:=p-z
    ca:=k
    if k>0 then
     o:=o++(a.extract z p).reverse
     p:=z
     if p == 0 then return dn o p q
    q:=q-1
    o:=o.push (<- elem' b q)
    if q == 1 then return fb o p q
    let some z <- lU true (<- elem' a (p-1)) b 0 q (q-1)
     |return dn o p q
    let k:=q-z
    cb:=k
    if k>0 then
     o:=o++(b.extract z q).reverse
     q:=z
     if q == 1 then return fb o p q
     if q == 0 then return dn o p q
    p:=p-1
    o:=o.push (<- elem' a p)
    if p == 0 then return dn o p q
    if ca<7&&cb<7 then break
   g:=g+1
   pY g
  unsupported "internal:list.sort.merge-bound"):=rfl
structure MJ(κ:KeyKind)(R A B tot:List Keyed):Prop where
 sr:R.Pairwise (le κ)
 Ar:∀x∈A,∀y∈R,le κ x y
 Br:∀x∈B,∀y∈R,le κ x y
 sA:A.Pairwise (le κ)
 sB:B.Pairwise (le κ)
 pm:((A++B)++R).Perm tot
theorem MJ.swap{R A B tot:List Keyed}(h:MJ κ R A B tot):MJ κ R B A tot:=⟨h.sr,h.Br,h.Ar,h.sB,h.sA,(VO.append_right R List.perm_append_comm).trans h.pm⟩
theorem MJ.Mj{R A B1 B2 tot:List Keyed}(h:MJ κ R A (B1++B2) tot)(hl:∀x∈A,∀y∈B2,le κ x y):MJ κ (B2++R) A B1 tot where
 sr:=Ud.mpr ⟨(Ud.mp h.sB).2.1,h.sr,fun x hx y hy=>h.Br x (TY _ hx) y hy⟩
 Ar:=fun x hx y hy=>by
  rcases T9.mp hy with hy | hy
  ·exact hl x hx y hy
  ·exact h.Ar x hx y hy
 Br:=fun x hx y hy=>by
  rcases T9.mp hy with hy | hy
  ·exact(Ud.mp h.sB).2.2 x hx y hy
  ·exact h.Br x (UQ _ hx) y hy
 sA:=h.sA
 sB:=(Ud.mp h.sB).1
 pm:=by
  have:=h.pm
  simpa [UU] using this
theorem MJ.Mk{R A1 A2 B tot:List Keyed}(h:MJ κ R (A1++A2) B tot)(hl:∀x∈B,∀y∈A2,le κ x y):MJ κ (A2++R) A1 B tot:=(h.swap.Mj hl).swap
theorem MJ.AJ{R A tot:List Keyed}(h:MJ κ R A [] tot):Done κ tot (A++R):=⟨by have:=h.pm;rwa [Uc]at this,Ud.mpr ⟨h.sA,h.sr,h.Ar⟩⟩
theorem MJ.GL{R B tot:List Keyed}(h:MJ κ R [] B tot):Done κ tot (B++R):=h.swap.AJ
theorem MJ.CK{R A B tot:List Keyed}(h:MJ κ R A B tot)(hl:∀x∈B,∀y∈A,le κ x y):Done κ tot (B++A++R):=by
 have:=(MJ.Mk (A1:=[]) h hl).GL
 rwa [<- UU]at this
section
variable{a b:Array Keyed}
section
variable{p q:Nat}
noncomputable abbrev MJa(κ:KeyKind)(a b o:Array Keyed)(p q:Nat):Prop:=MJ κ o.toList.reverse (a.toList.take p) (b.toList.take q) (a.toList++b.toList)
def IJ(κ:KeyKind)(a b o:Array Keyed)(p q:Nat):Prop:=1<=p/\p<=a.size/\2<=q/\q<=b.size/\MJa κ a b o p q
theorem cA{x:Array Keyed}{p:Nat}:(x.extract 0 p).toList=x.toList.take p:=by rw[UT,UA,List.drop_zero,Nat.sub_zero]
theorem l7{x:Array Keyed}{p:Nat}(h:p<x.size):x.toList.take (p+1)=x.toList.take p++[x[p]]:=by rw[List.take_succ,Tv (by rw[TH];exact h)];simp
theorem uD{x:Array Keyed}{z p:Nat}(hz:z<=p):x.toList.take p=x.toList.take z++(x.extract z p).toList:=by rw[UT,UA];have:=Vk z (x.toList.take p);rw[List.take_take,Nat.min_eq_left hz,List.drop_take]at this;exact this.symm
theorem r_{o:Array Keyed}(h:MJa κ a b o p q)(hp:p=0):Done κ (a.toList++b.toList) (a.extract 0 p++b.extract 0 q++o.reverse).toList:=by rw[T5,T5,cA,cA,Vp];subst hp;unfold MJa at h;rw[W5]at h ⊢;rw[U4];exact h.GL
theorem Ml{o:Array Keyed}(h:MJa κ a b o p q)(hq:q=0):Done κ (a.toList++b.toList) (a.extract 0 p++b.extract 0 q++o.reverse).toList:=by rw[T5,T5,cA,cA,Vp];subst hq;unfold MJa at h;rw[W5]at h ⊢;rw[Uc];exact h.AJ
theorem yS{o:Array Keyed}(hb:1<=b.size)(first:∀y∈a.toList,le κ (b[0]'(by lia)) y)(h:MJa κ a b o p q)(hq:q=1):Done κ (a.toList++b.toList) (b.extract 0 q++a.extract 0 p++o.reverse).toList:=by rw[T5,T5,cA,cA,Vp];refine MJ.CK h fun x hx y hy=>?_;subst hq;rw[show 1=0+1 from rfl,l7 (by lia),W5,U4,TJ]at hx;subst hx;exact first y (Wc hy)
theorem Jg{o:Array Keyed}(hq:q<b.size)(h:MJa κ a b o p (q+1))(hl:∀x∈a.toList.take p,le κ x b[q]):MJa κ a b (o.push b[q]) p q:=by unfold MJa at h ⊢;rw[Vz,Vr,List.reverse_singleton];rw[l7 hq]at h;exact MJ.Mj h fun x hx y hy=>by rw[TJ]at hy;subst hy;exact hl x hx
theorem CN{o:Array Keyed}(hp:p<a.size)(h:MJa κ a b o (p+1) q)(hl:∀x∈b.toList.take q,le κ x a[p]):MJa κ a b (o.push a[p]) p q:=by unfold MJa at h ⊢;rw[Vz,Vr,List.reverse_singleton];rw[l7 hp]at h;exact MJ.Mk h fun x hx y hy=>by rw[TJ]at hy;subst hy;exact hl x hx
theorem l8{x:Array Keyed}{p:Nat}(h:p<x.size)(hs:(x.toList.take (p+1)).Pairwise (le κ)):∀y∈x.toList.take (p+1),le κ y x[p]:=fun y hy=>by
 rw[l7 h]at hs hy;rcases T9.mp hy with hy | hy
 ·exact(Ud.mp hs).2.2 y hy _ (TJ.mpr rfl)
 ·rw[TJ]at hy;subst hy;exact le_refl _
theorem uE{x:Array Keyed}(hk:KeysOf κ x)(h:x.toList.Pairwise (le κ)){p:Nat}(hp:p<=x.size):Seg κ x 0 (0+p):=fun i j h1 h2 h3=>CL hk h i j (by lia) h2 (by lia)
noncomputable abbrev GQ:=Option (Array Keyed)×Nat×Nat×Array Keyed×Nat×Nat×Nat
noncomputable def hA(a b o:Array Keyed)(p q g ca k:Nat):StateT SortSt Sem (ForInStep GQ):=do
 let z <- elem' a (p-1)
 if p-1 == 0 then pure (ForInStep.done (some (a.extract 0 (p-1)++b.extract 0 q++(o.push z).reverse),p-1,q,o.push z,g,ca,k))
 else if ca<7&&k<7 then pure (ForInStep.done (none,p-1,q,o.push z,g,ca,k))
 else pure (UK (none,p-1,q,o.push z,g,ca,k))
noncomputable def hB(a b o:Array Keyed)(p q g ca cb:Nat):StateT SortSt Sem (ForInStep GQ):=do
 let z <- elem' b (q-1)
 if q-1 == 1 then pure (ForInStep.done (some (b.extract 0 (q-1)++a.extract 0 p++(o.push z).reverse),p,q-1,o.push z,g,ca,cb))
 else do
  let y <- elem' a (p-1)
  let r <- lU true y b 0 (q-1) (q-1-1)
  match r with
   |some m=>
    if q-1-m>0 then
     if m == 1 then pure (ForInStep.done (some (b.extract 0 m++a.extract 0 p++(o.push z++(b.extract m (q-1)).reverse).reverse),p,m,o.push z++(b.extract m (q-1)).reverse,g,ca,q-1-m))
     else if m == 0 then pure (ForInStep.done (some (a.extract 0 p++b.extract 0 m++(o.push z++(b.extract m (q-1)).reverse).reverse),p,m,o.push z++(b.extract m (q-1)).reverse,g,ca,q-1-m))
     else hA a b (o.push z++(b.extract m (q-1)).reverse) p m g ca (q-1-m)
    else hA a b (o.push z) p (q-1) g ca (q-1-m)
   |x=>pure (ForInStep.done (some (a.extract 0 p++b.extract 0 (q-1)++(o.push z).reverse),p,q-1,o.push z,g,ca,cb))
noncomputable def hC(a b o:Array Keyed)(p q g ca cb:Nat):StateT SortSt Sem (ForInStep GQ):=do
 pY g
 let z <- elem' b (q-1)
 let r <- lU false z a 0 p (p-1)
 match r with
  |some m=>
   if p-m>0 then
    if m == 0 then pure (ForInStep.done (some (a.extract 0 m++b.extract 0 q++(o++(a.extract m p).reverse).reverse),m,q,o++(a.extract m p).reverse,g,p-m,cb))
    else hB a b (o++(a.extract m p).reverse) m q g (p-m) cb
   else hB a b o p q g (p-m) cb
  |x=>pure (ForInStep.done (some (a.extract 0 p++b.extract 0 q++o.reverse),p,q,o,g,ca,cb))
def yT(κ:KeyKind)(a b:Array Keyed)(N:Nat)(st:SortSt)(r:ForInStep GQ)(st':SortSt):Prop:=(∃g',st'=setG st g')/\match r with
 |.done c=>(∃r z,c=(some r,z)/\Done κ (a.toList++b.toList) r.toList)\/∃o p q g ca cb,c=(none,p,q,o,g,ca,cb)/\IJ κ a b o p q/\N<=o.size
 |.yield c=>∃o p q g ca cb,c=(none,p,q,o,g,ca,cb)/\IJ κ a b o p q/\N<=o.size
theorem Jh{M:Model}{o:Array Keyed}{p q g ca k N:Nat}{st st':SortSt}(hs:∃g',st'=setG st g')(hp:1<=p)(hp2:p<=a.size)(hq:2<=q)(hq2:q<=b.size)
  (mj:MJa κ a b o p q) (hl:∀x∈b.toList.take q,le κ x (a[p-1]'(by lia))) (hN:N<=o.size):wpS M A E s (hA a b o p q g ca k) (yT κ a b N st) st':=by
 obtain⟨p,rfl⟩:∃p',p=p'+1:=⟨p-1,by lia⟩
 unfold hA;rw[Wy];rw[bC (a:=a) (i:=p) (by lia)];refine wpS_bind (wpS_pure ?_);have mj2:=CN (by lia) mj hl;by_cases h1:p=0
 ·rw[if_pos (by simpa using h1)];exact wpS_pure ⟨hs,.inl ⟨_,_,rfl,r_ mj2 h1⟩⟩
 ·rw[if_neg (by simpa using h1)];have ij:IJ κ a b (o.push (a[p]'(by lia))) p q:=⟨by lia,by lia,hq,hq2,mj2⟩
  split
  ·exact wpS_pure ⟨hs,.inr ⟨_,_,_,_,_,_,rfl,ij,by rw[Uh];lia⟩⟩
  ·exact wpS_pure ⟨hs,⟨_,_,_,_,_,_,rfl,ij,by rw[Uh];lia⟩⟩
theorem Ji{M:Model}(hL:d7 M A E s κ kd)(ka:KeysOf κ a)(kb:KeysOf κ b)(sb:b.toList.Pairwise (le κ)){o:Array Keyed}{p q g ca cb N:Nat}{st st':SortSt}(hb:1<=b.size)(first:∀y∈a.toList,le κ (b[0]'(by lia)) y)(hd:kindOf st=kd)(hs:∃g',st'=setG st g')(hp:1<=p)(hp2:p<=a.size)(hq:2<=q)(hq2:q<=b.size)
  (mj:MJa κ a b o p q) (hl:∀x∈a.toList.take p,le κ x (b[q-1]'(by lia))) (hN:N<=o.size):wpS M A E s (hB a b o p q g ca cb) (yT κ a b N st) st':=by
 obtain⟨q,rfl⟩:∃q',q=q'+1:=⟨q-1,by lia⟩
 unfold hB;rw[Wy];rw[bC (a:=b) (i:=q) (by lia)];refine wpS_bind (wpS_pure ?_);have mj2:=Jg (by lia) mj hl;by_cases h1:q=1
 ·rw[if_pos (by simpa using h1)];exact wpS_pure ⟨hs,.inl ⟨_,_,rfl,yS hb first mj2 h1⟩⟩
 rw[if_neg (by simpa using h1),bC (a:=a) (i:=p-1) (by lia)];refine wpS_bind (wpS_pure ?_);obtain⟨g',rfl⟩:=hs;refine wpS_bind (kL (b:=0) (n:=q) (hint:=q-1) hL (aV ka (i:=p-1) (by lia)).1 kb (by lia) (by lia) (uE kb sb (by lia)) (st:=setG st g') hd fun m hm h2 h3=>?_)
 try dsimp only
 have Sf:∀x∈a.toList.take p,le κ x (a[p-1]'(by lia)):=by
  have:=l8 (κ:=κ) (x:=a) (p:=p-1) (by lia) (by rw[show p-1+1=p by lia];exact mj.sA)
  rwa [show p-1+1=p by lia]at this
 have le1:∀x∈a.toList.take p,∀y∈(b.extract m q).toList,le κ x y:=fun x hx y hy=>by obtain⟨n,hn,hn2,rfl⟩:=bF (x:=b) (i:=m) (k:=q-m) (by rw[show m+(q-m)=q by lia];exact hy);have:=h3 (m+n) (by lia) (by lia);unfold pass at this;rw[if_pos rfl,VE,(aV kb hn2).2]at this;exact le_trans (Sf x hx) this
 have le2:∀x∈b.toList.take m,le κ x (a[p-1]'(by lia)):=fun x hx=>by rw[<- cA]at hx;obtain⟨n,hn,hn2,rfl⟩:=bF (x:=b) (i:=0) (k:=m) (by rw[VE];exact hx);have:=h2 n hn;unfold pass at this;rw[if_pos rfl,(aV kb hn2).2]at this;exact Ur this
 by_cases hk0:q-m>0
 ·rw[if_pos hk0];have mj3:MJa κ a b (o.push (b[q]'(by lia))++(b.extract m q).reverse) p m:=by
   unfold MJa at mj2 ⊢;rw[T5,Vp,Vr,VI];rw[uD (z:=m) (p:=q) (by lia)]at mj2;exact MJ.Mj mj2 le1
  by_cases h4:m=1
  ·rw[if_pos (by simpa using h4)];exact wpS_pure ⟨⟨_,rfl⟩,.inl ⟨_,_,rfl,yS hb first mj3 h4⟩⟩
  rw[if_neg (by simpa using h4)];by_cases h5:m=0
  ·rw[if_pos (by simpa using h5)];exact wpS_pure ⟨⟨_,rfl⟩,.inl ⟨_,_,rfl,Ml mj3 h5⟩⟩
  rw[if_neg (by simpa using h5)];exact Jh ⟨_,rfl⟩ hp hp2 (by lia) (by lia) mj3 le2 (by rw[VX,Uh];lia)
 ·rw[if_neg hk0];have:m=q:=by lia
  subst this;exact Jh ⟨_,rfl⟩ hp hp2 (by lia) (by lia) mj2 le2 (by rw[Uh];lia)
theorem Pz{M:Model}(hL:d7 M A E s κ kd)(ka:KeysOf κ a)(kb:KeysOf κ b)(sa:a.toList.Pairwise (le κ))(sb:b.toList.Pairwise (le κ)){o:Array Keyed}{p q g ca cb N:Nat}{st st':SortSt}(hb:1<=b.size)(first:∀y∈a.toList,le κ (b[0]'(by lia)) y)(hd:kindOf st=kd)(hs:∃g',st'=setG st g')
  (ij:IJ κ a b o p q) (hN:N<=o.size):wpS M A E s (hC a b o p q g ca cb) (yT κ a b N st) st':=by
 obtain⟨hp,hp2,hq,hq2,mj⟩:=ij;obtain⟨g',rfl⟩:=hs;unfold hC;refine wpS_bind ?_;unfold pY;refine wpS_modify ?_;rw[bC (a:=b) (i:=q-1) (by lia)];refine wpS_bind (wpS_pure ?_);refine wpS_bind (kL (b:=0) (n:=p) (hint:=p-1) hL (aV kb (i:=q-1) (by lia)).1 ka (by lia) (by lia) (uE ka sa (by lia)) (st:=setG st g) hd fun m hm h2 h3=>?_)
 try dsimp only
 have Sg:∀x∈b.toList.take q,le κ x (b[q-1]'(by lia)):=by
  have:=l8 (κ:=κ) (x:=b) (p:=q-1) (by lia) (by rw[show q-1+1=q by lia];exact mj.sB)
  rwa [show q-1+1=q by lia]at this
 have le1:∀x∈b.toList.take q,∀y∈(a.extract m p).toList,le κ x y:=fun x hx y hy=>by
  obtain⟨n,hn,hn2,rfl⟩:=bF (x:=a) (i:=m) (k:=p-m) (by rw[show m+(p-m)=p by lia];exact hy);have:=h3 (m+n) (by lia) (by lia);unfold pass at this;rw[if_neg (by decide),VE,(aV ka hn2).2]at this;have dR:κ.blt (kp κ (b[q-1]'(by lia))) (kp κ a[m+n])=true:=by simpa using this
  exact le_trans (Sg x hx) (Ur dR)
 have le2:∀x∈a.toList.take m,le κ x (b[q-1]'(by lia)):=fun x hx=>by
  rw[<- cA]at hx;obtain⟨n,hn,hn2,rfl⟩:=bF (x:=a) (i:=0) (k:=m) (by rw[VE];exact hx);have:=h2 n hn;unfold pass at this;rw[if_neg (by decide),(aV ka hn2).2]at this;have dR:κ.blt (kp κ (b[q-1]'(by lia))) (kp κ a[0+n])=false:=by simpa using this
  exact dR
 by_cases hk0:p-m>0
 ·rw[if_pos hk0];have mj3:MJa κ a b (o++(a.extract m p).reverse) m q:=by
   unfold MJa at mj ⊢;rw[T5,Vp,Vr,VI];rw[uD (z:=m) (p:=p) (by lia)]at mj;exact MJ.Mk mj le1
  by_cases h5:m=0
  ·rw[if_pos (by simpa using h5)];exact wpS_pure ⟨⟨_,rfl⟩,.inl ⟨_,_,rfl,r_ mj3 h5⟩⟩
  rw[if_neg (by simpa using h5)];exact Ji hL ka kb sb hb first hd ⟨_,rfl⟩ (by lia) (by lia) hq hq2 mj3 le2 (by rw[VX];lia)
 ·rw[if_neg hk0];have:m=p:=by lia
  subst this;exact Ji hL ka kb sb hb first hd ⟨_,rfl⟩ hp hp2 hq hq2 mj le2 hN
theorem Mm(hL:d7 (model prog w) A E s κ kd)(ka:KeysOf κ a)(kb:KeysOf κ b)(sa:a.toList.Pairwise (le κ))(sb:b.toList.Pairwise (le κ))(ha:1<=a.size)(hb:1<=b.size)
  (first:∀y∈a.toList,le κ (b[0]'(by lia)) y) (last:∀y∈b.toList,le κ y (a[a.size-1]'(by lia))) {st:SortSt} (hd:kindOf st=kd) {Q:Array Keyed->SortSt->Prop}
  (h:∀r g,Done κ (a.toList++b.toList) r.toList->Q r (setG st g)):wpS (model prog w) A E s (Mb a b) Q st:=by
 rw[Mi];refine wpS_bind (wpS_lift (wpAny_rule ⟨rfl,?_⟩))
 try dsimp only
 rw[bC (a:=a) (i:=a.size-1) (by lia)];refine wpS_bind (wpS_pure ?_)
 try dsimp only
 have m0:MJa κ a b #[] (a.size-1+1) b.size:=⟨by simp,by simp,by simp,by rw [show a.size-1+1=a.size by lia,UZ (by simp)];exact sa,by rw [UZ (by simp)];exact sb,by rw[show a.size-1+1=a.size by lia,UZ (by simp),UZ (by simp)];simp⟩
 have m1:MJa κ a b #[a[a.size-1]'(by lia)] (a.size-1) b.size:=CN (o:=#[]) (by lia) m0 fun x hx=>last x (Wc hx);have same:setG st (gallopOf st)=st:=rfl;by_cases ha1:a.size-1=0
 ·rw[if_pos (by simpa using ha1)];exact wpS_pure (same▸h _ (gallopOf st) (r_ m1 ha1))
 rw[if_neg (by simpa using ha1)];by_cases hb1:b.size=1
 ·rw[if_pos (by simpa using hb1)];exact wpS_pure (same▸h _ (gallopOf st) (yS hb first m1 hb1))
 rw[if_neg (by simpa using hb1)];refine wpS_bind (wpS_get ?_)
 try dsimp only
 have len:∀{o:Array Keyed} {p q:Nat},IJ κ a b o p q->o.size<a.size+b.size:=fun {o p q} ⟨h1,h2,h3,h4,h5⟩=>by
  have:=h5.pm.length_eq;simp only[Tz,TH,UD,UI]at this
  lia
 refine wpS_bind (wpS_mono (wpS_forRange (I:=fun x c st'=>∃ o p q g,c=(none,p,q,o,g)∧(∃ g',st'=setG st g')∧IJ κ a b o p q∧x+1≤o.size)
  (Q:=fun c st'=>∃r z,c=(some r,z)/\(∃g',st'=setG st g')/\Done κ (a.toList++b.toList) r.toList) ?st1 ?fi1 ⟨_,a.size-1,b.size,_,rfl,⟨gallopOf st,rfl⟩,⟨by lia,by lia,by lia,by lia,m1⟩,by simp⟩) ?po1)
 case fi1=>
  rintro c st' ⟨o,p,q,g,rfl,_,ij,hsz⟩;have:=len ij
  lia
 case po1=>rintro c st' ⟨r,z,rfl,⟨g',rfl⟩,hdn⟩;exact wpS_pure (h r g' hdn)
 case st1=>
  rintro x c st' _ hx ⟨o,p,q,g,rfl,⟨g',rfl⟩,ij,hsz⟩
  try dsimp only
  refine wpS_bind (wpS_mono (wpS_forRange (I:=fun y c st''=>∃ o' p' q' ca cb,c=(none,p',q',o',ca,cb)∧st''=setG st g'∧IJ κ a b o' p' q'∧o.size+y≤o'.size)
   (Q:=fun c st''=>st''=setG st g'/\((∃r z,c=(some r,z)/\Done κ (a.toList++b.toList) r.toList)\/∃o' p' q' ca cb,c=(none,p',q',o',ca,cb)/\IJ κ a b o' p' q'/\o.size+1<=o'.size)) ?st2 ?fi2 ⟨o,p,q,0,0,rfl,rfl,ij,by lia⟩) ?po2)
  case fi2=>rintro c st'' ⟨o',p',q',ca,cb,rfl,rfl,ij',hs'⟩;exact⟨rfl,.inr ⟨o',p',q',ca,cb,rfl,ij',by lia⟩⟩
  case st2=>
   rintro y c st'' _ hy ⟨o',p',q',ca,cb,rfl,rfl,⟨hp1,hp2,hq1,hq2,mj⟩,hs'⟩
   try dsimp only
   obtain⟨p',rfl⟩:∃z,p'=z+1:=⟨p'-1,by lia⟩
   obtain⟨q',rfl⟩:∃z,q'=z+1:=⟨q'-1,by lia⟩
   simp only[Wy];rw[bC (a:=b) (i:=q') (by lia),bC (a:=a) (i:=p') (by lia)];refine wpS_bind (wpS_pure (wpS_bind (wpS_pure ?_)));obtain⟨kb1,_⟩:=aV kb (i:=q') (by lia);obtain⟨ka1,_⟩:=aV ka (i:=p') (by lia);refine wpS_bind (hL _ _ _ _ _ _ kb1 ka1 hd ?_)
   try dsimp only
   cases hw:κ.blt (kp κ (b[q']'(by lia))) (kp κ (a[p']'(by lia)))
   case true=>
    rw[if_pos rfl];refine wpS_bind (wpS_pure ?_)
    try dsimp only
    have mj2:=CN (by lia) mj fun x hx=>le_trans (l8 (by lia) mj.sB x hx) (Ur hw);by_cases hpb:p'=0
    ·rw[if_pos (by simpa using hpb)];exact wpS_pure ⟨rfl,.inl ⟨_,_,rfl,r_ mj2 hpb⟩⟩
    rw[if_neg (by simpa using hpb)];by_cases hg:ca+1≥g
    ·rw[if_pos hg];exact wpS_pure ⟨rfl,.inr ⟨_,_,_,_,_,rfl,⟨by lia,by lia,by lia,by lia,mj2⟩,by rw[Uh];lia⟩⟩
    ·rw[if_neg hg];exact wpS_pure ⟨_,_,_,_,_,rfl,rfl,⟨by lia,by lia,by lia,by lia,mj2⟩,by rw[Uh];lia⟩
   case false=>
    rw[if_neg (by decide)];refine wpS_bind (wpS_pure ?_)
    try dsimp only
    have mj2:=Jg (by lia) mj fun x hx=>le_trans (l8 (by lia) mj.sA x hx) hw;by_cases hqb:q'=1
    ·rw[if_pos (by simpa using hqb)];exact wpS_pure ⟨rfl,.inl ⟨_,_,rfl,yS hb first mj2 hqb⟩⟩
    rw[if_neg (by simpa using hqb)];by_cases hg:cb+1≥g
    ·rw[if_pos hg];exact wpS_pure ⟨rfl,.inr ⟨_,_,_,_,_,rfl,⟨by lia,by lia,by lia,by lia,mj2⟩,by rw[Uh];lia⟩⟩
    ·rw[if_neg hg];exact wpS_pure ⟨_,_,_,_,_,rfl,rfl,⟨by lia,by lia,by lia,by lia,mj2⟩,by rw[Uh];lia⟩
  case po2=>
   rintro c st'' ⟨rfl,⟨r,z,rfl,hdn⟩ | ⟨o',p',q',ca,cb,rfl,ij',hs'⟩⟩
   ·try dsimp only
    exact wpS_pure ⟨r,_,rfl,⟨_,rfl⟩,hdn⟩
   try dsimp only
   refine wpS_bind (wpS_lift (wpAny_rule ⟨rfl,?_⟩));refine wpS_bind (wpS_mono (wpS_forRange (I:=fun y c st''=>∃ o2 p2 q2 g2 ca cb,c=(none,p2,q2,o2,g2,ca,cb)∧(∃ g',st''=setG st g')∧IJ κ a b o2 p2 q2∧o.size+1≤o2.size)
    (Q:=fun c st''=>(∃g',st''=setG st g')/\((∃r z,c=(some r,z)/\Done κ (a.toList++b.toList) r.toList)\/∃o2 p2 q2 g2 ca cb,c=(none,p2,q2,o2,g2,ca,cb)/\IJ κ a b o2 p2 q2/\o.size+1<=o2.size)) ?st3 ?fi3 ⟨o',p',q',_,_,_,rfl,⟨_,rfl⟩,ij',hs'⟩) ?po3)
   case fi3=>rintro c st'' ⟨o2,p2,q2,g2,ca,cb,rfl,hg,ij2,hs2⟩;exact⟨hg,.inr ⟨o2,p2,q2,g2,ca,cb,rfl,ij2,hs2⟩⟩
   case po3=>
    rintro c st'' ⟨⟨g3,rfl⟩,⟨r,z,rfl,hdn⟩ | ⟨o2,p2,q2,g2,ca,cb,rfl,ij2,hs2⟩⟩
    ·try dsimp only
     exact wpS_pure ⟨r,_,rfl,⟨_,rfl⟩,hdn⟩
    ·try dsimp only
     refine wpS_bind ?_;unfold pY;exact wpS_modify (wpS_pure ⟨o2,p2,q2,_,rfl,⟨_,rfl⟩,ij2,by lia⟩)
   case st3=>
    rintro y c st'' _ hy ⟨o2,p2,q2,g2,ca,cb,rfl,⟨g3,rfl⟩,ij2,hs2⟩;show wpS _ _ _ _ (if g2>1 then hC a b o2 p2 q2 (g2-1) ca cb else hC a b o2 p2 q2 g2 ca cb) _ _;have HB:∀g,wpS (model prog w) A E s (hC a b o2 p2 q2 g ca cb) (yT κ a b (o.size+1) st) (setG st g3):=fun g=>Pz hL ka kb sa sb hb first hd ⟨_,rfl⟩ ij2 hs2
    split
    all_goals
     refine wpS_mono (HB _) fun r st' hG=>?_;cases r with
     |done c=>exact hG
     |yield c=>obtain⟨hg,o,i,j,g,ca,cb,e,im,hz⟩:=hG;exact⟨o,i,j,g,ca,cb,e,hg,im,hz⟩
end
end
end Ts
namespace Ts
open PySem PyProof.Rows
variable{A:Around}{E:Value->Shared->Prop}{s:Shared}{κ:KeyKind}{kd:SortKind}{a₀:Array Keyed}{prog:Program}{w:World}
theorem ext_get{xs:Array Keyed}{i j n:Nat}(hj:j<=xs.size)(h:n<(xs.extract i j).toList.length):∃hn:i+n<xs.size,i+n<j/\(xs.extract i j).toList[n]=xs[i+n]:=by rw[TH,Vx]at h;refine⟨by lia,by lia,?_⟩;simp
theorem eO{xs:Array Keyed}(hk:KeysOf κ xs){i j:Nat}(hj:j<=xs.size):Seg κ xs i j↔(xs.extract i j).toList.Pairwise (le κ):=by
 rw[VL];constructor
 ·intro h p q hp hq hpq;obtain⟨p1,p2,ep⟩:=ext_get hj hp;obtain⟨q1,q2,eq⟩:=ext_get hj hq;rw[ep,eq];have:=h (i+p) (i+q) (by lia) (by lia) q2;rw[(aV hk p1).2,(aV hk q1).2]at this;exact this
 ·intro h p q h1 h2 h3;by_cases e:p=q
  ·subst e;exact UC _
  have hl:(xs.extract i j).toList.length=j-i:=by rw[TH,Vx];lia
  obtain⟨p1,p2,ep⟩:=ext_get (i:=i) (n:=p-i) hj (by lia);obtain⟨q1,q2,eq⟩:=ext_get (i:=i) (n:=q-i) hj (by lia);have:=h (p-i) (q-i) (by lia) (by lia) (by lia);rw[ep,eq]at this;have e1:KK κ xs p=kp κ (xs[i+(p-i)]):=(congrArg (KK κ xs) (show p=i+(p-i) by lia)).trans (aV hk p1).2;have e2:KK κ xs q=kp κ (xs[i+(q-i)]):=(congrArg (KK κ xs) (show q=i+(q-i) by lia)).trans (aV hk q1).2;rw[e1,e2];exact this
noncomputable def wr(m:List Keyed)(n b:Nat)(xs:Array Keyed):Array Keyed:=(m.zipIdx n).foldl (fun a (p,j)=>a.setIfInBounds (b+j) p) xs
theorem yU:∀(m:List Keyed) (n b:Nat) (xs:Array Keyed),(wr m n b xs).size=xs.size
 |[],n,b,xs=>rfl
 |p::m,n,b,xs=>by show (wr m (n+1) b (xs.setIfInBounds (b+n) p)).size=_;rw[yU m];simp
theorem yV:∀(m:List Keyed) (n b:Nat) (xs:Array Keyed),b+n+m.length<=xs.size->(wr m n b xs).toList=xs.toList.take (b+n)++m++xs.toList.drop (b+n+m.length)
 |[],n,b,xs,h=>by show xs.toList=_;simp
 |p::m,n,b,xs,h=>by
  rw[Uy]at h;show (wr m (n+1) b (xs.setIfInBounds (b+n) p)).toList=_;rw[yV m (n+1) b _ (by simp;lia),Array.toList_setIfInBounds];rw[show b+(n+1)=b+n+1 by lia,List.take_succ,TR (by simp;lia),List.take_set_of_le (by lia),List.drop_set_of_lt (by lia)];simp
  lia
theorem Mn(xs:Array Keyed){i j:Nat}(h:i<=j)(hj:j<=xs.size):xs.toList=xs.toList.take i++((xs.extract i j).toList++xs.toList.drop j):=by
 have h1:=Vk i xs.toList;have h2:xs.toList.drop i=(xs.extract i j).toList++xs.toList.drop j:=by
  have:=nh (a:=xs) (i:=i) (k:=j-i)
  rwa [show i+(j-i)=j by lia]at this
 rw[<- h2,h1]
theorem jT(xs:Array Keyed){i j k:Nat}(h:i<=j)(h2:j<=k)(hk:k<=xs.size):(xs.extract i k).toList=(xs.extract i j).toList++(xs.extract j k).toList:=by simp only[UT,UA];have:=Vk (j-i) ((xs.toList.drop i).take (k-i));rw[List.take_take,List.drop_take,List.drop_drop]at this;rw[show min (j-i) (k-i)=j-i by lia,show k-i-(j-i)=k-j by lia,show i+(j-i)=j by lia]at this;exact this.symm
theorem PB(i:Nat):mergeAt' i=(do
  let st <- get
  let (some (u,m,c),some (v,n,_)):=((pendingOf st)[i]?,(pendingOf st)[i+1]?)
   |unsupported "internal:list.sort.pending"
  set (setPending st (((pendingOf st).setIfInBounds i (u,m+n,c)).eraseIdxIfInBounds (i+1)))
  let some k <- lU false (<- elem' (arrOf st) v) (arrOf st) u m 0
   |return false
  let (u,m):=(u+k,m-k)
  if m == 0 then return true
  let some n <- lU true (<- elem' (arrOf st) (u+m-1)) (arrOf st) v n (n-1)
   |return false
  if n == 0 then return true
  let x:=(arrOf st).extract u v
  let y:=(arrOf st).extract v (v+n)
  let z <- if m<=n then Ma x y
   else Mb x y
  modify fun st=>setArr st (z.toList.zipIdx.foldl (fun a (p,j)=>a.setIfInBounds (u+j) p) (arrOf st))
  return (failedOf (<- get)).isNone):=rfl
theorem uF{xs:Array Keyed}(hk:KeysOf κ xs)(i j:Nat):KeysOf κ (xs.extract i j):=fun p hp=>hk p (by rw[UT,UA]at hp;exact List.mem_of_mem_drop (Wc hp))
theorem PD(hL:d7 (model prog w) A E s κ kd)(h0:KeysOf κ a₀){st:SortSt}(hB:SB kd a₀ st){i u m c n c':Nat}(hp1:(pendingOf st)[i]?=some (u,m,c))(hp2:(pendingOf st)[i+1]?=some (u+m,n,c'))(hm:1<=m)(hn:1<=n)(hsz:u+m+n<=a₀.size)
  (s1:Seg κ (arrOf st) u (u+m)) (s2:Seg κ (arrOf st) (u+m) (u+m+n)) {Q:Bool->SortSt->Prop}
  (h:∀xs g,xs.Perm (arrOf st)->Seg κ xs u (u+m+n)->Out (arrOf st) xs u (u+m+n)->Q true (setG (setArr (setPending st (((pendingOf st).setIfInBounds i (u,m+n,c)).eraseIdxIfInBounds (i+1))) xs) g)):wpS (model prog w) A E s (mergeAt' i) Q st:=by
 have hk:=hB.keys h0;have hA:(arrOf st).size=a₀.size:=hB.size;rw[PB];refine wpS_bind (wpS_get ?_)
 try dsimp only
 rw[hp1,hp2]
 try dsimp only
 refine wpS_bind ?_;show wpS _ _ _ _ (set _) _ _
 generalize hP:((pendingOf st).setIfInBounds i (u,m+n,c)).eraseIdxIfInBounds (i+1)=P at h ⊢
 refine (show ∀ {R:PUnit→SortSt→Prop},R ⟨⟩ (setPending st P)→wpS (model prog w) A E s (set (setPending st P):StateT SortSt Sem PUnit) R st from fun {R} hR=>by unfold wpS;exact wpAny_pure ⟨rfl,hR⟩) ?_
 generalize hxs:arrOf st=xs at *
 rw[bC (a:=xs) (i:=u+m) (by lia)];refine wpS_bind (wpS_pure ?_);refine wpS_bind (kL (b:=u) (n:=m) (hint:=0) hL (aV hk (i:=u+m) (by lia)).1 hk (by lia) (by lia) s1 (st:=setPending st P) hB.kind fun k hkm h1 h2=>?_)
 try dsimp only
 have low:∀q,q<k->κ.kle (KK κ xs (u+q)) (KK κ xs (u+m)):=fun q hq=>by
  have:=h1 q hq;unfold pass at this;rw[if_neg (by decide),<- (aV hk (i:=u+m) (by lia)).2]at this;have dR:κ.blt (KK κ xs (u+m)) (KK κ xs (u+q))=false:=by simpa using this
  exact dR
 by_cases hk0:m-k=0
 ·rw[if_pos (by simpa using hk0)];have km:k=m:=by lia
  subst km;refine wpS_pure ?_;have:=h xs (gallopOf st) (Array.Perm.refl _) (fun p q hp hpq hq=>?_) (Out.refl _ _ _)
  ·rw[<- hxs]at this;exact this
  ·by_cases hq1:q<u+k
   ·exact s1 p q hp hpq hq1
   ·by_cases hp1:u+k<=p
    ·exact s2 p q hp1 hpq hq
    ·have:=low (p-u) (by lia);rw[show u+(p-u)=p by lia]at this;exact UO this (s2 _ q (by lia) (by lia) hq)
 rw[if_neg (by simpa using hk0)];rw[bC (a:=xs) (i:=u+k+(m-k)-1) (by lia)];refine wpS_bind (wpS_pure ?_);refine wpS_bind (kL (b:=u+m) (n:=n) (hint:=n-1) hL (aV hk (i:=u+k+(m-k)-1) (by lia)).1 hk (by lia) (by lia) s2 (st:=setPending st P) hB.kind fun n' hn' h3 h4=>?_)
 try dsimp only
 have hi:∀q,n'<=q->q<n->κ.kle (KK κ xs (u+m-1)) (KK κ xs (u+m+q)):=fun q hq hq2=>by have:=h4 q hq hq2;unfold pass at this;rw[if_pos rfl,<- (aV hk (i:=u+k+(m-k)-1) (by lia)).2]at this;rw[show u+k+(m-k)-1=u+m-1 by lia]at this;exact this
 have lo2:∀q,q<n'->κ.kle (KK κ xs (u+m+q)) (KK κ xs (u+m-1)):=fun q hq=>by have:=h3 q hq;unfold pass at this;rw[if_pos rfl,<- (aV hk (i:=u+k+(m-k)-1) (by lia)).2]at this;rw[show u+k+(m-k)-1=u+m-1 by lia]at this;exact Ur this
 by_cases hn0:n'=0
 ·rw[if_pos (by simpa using hn0)];refine wpS_pure ?_;have:=h xs (gallopOf st) (Array.Perm.refl _) (fun p q hp hpq hq=>?_) (Out.refl _ _ _)
  ·rw[<- hxs]at this;exact this
  ·by_cases hq1:q<u+m
   ·exact s1 p q hp hpq hq1
   ·by_cases hp1:u+m<=p
    ·exact s2 p q hp1 hpq hq
    ·have:=hi (q-(u+m)) (by lia) (by lia);rw[show u+m+(q-(u+m))=q by lia]at this;exact UO (s1 p (u+m-1) hp (by lia) (by lia)) this
 rw[if_neg (by simpa using hn0)];have kx:=uF hk (u+k) (u+m);have ky:=uF hk (u+m) (u+m+n');have sx:(xs.extract (u+k) (u+m)).toList.Pairwise (le κ):=(eO hk (by lia)).mp fun p q a b c=>s1 p q (by lia) b c;have sy:(xs.extract (u+m) (u+m+n')).toList.Pairwise (le κ):=(eO hk (by lia)).mp fun p q a b c=>s2 p q a b (by lia);have zx:(xs.extract (u+k) (u+m)).size=m-k:=by rw[Vx];lia
 have zy:(xs.extract (u+m) (u+m+n')).size=n':=by rw[Vx];lia
 have y0:(xs.extract (u+m) (u+m+n'))[0]'(by lia)=xs[u+m]'(by lia):=by simp
 have xl:(xs.extract (u+k) (u+m))[(xs.extract (u+k) (u+m)).size-1]'(by lia)=xs[u+m-1]'(by lia):=by
  simp only[Array.getElem_extract]
  congr 1
  rw[zx];lia
 have first:∀y∈(xs.extract (u+k) (u+m)).toList,le κ ((xs.extract (u+m) (u+m+n'))[0]'(by lia)) y:=fun y hy=>by
  obtain⟨q,hq,hq2,rfl⟩:=bF (x:=xs) (i:=u+k) (k:=m-k) (by rw[show u+k+(m-k)=u+m by lia];exact hy);rw[y0];have:=h2 (k+q) (by lia) (by lia);unfold pass at this;rw[if_neg (by decide)]at this;have dR:κ.blt (kp κ (xs[u+m]'(by lia))) (KK κ xs (u+(k+q)))=true:=by simpa using this
  rw[show u+(k+q)=u+k+q by lia,(aV hk hq2).2]at dR;exact Ur dR
 have last:∀y∈(xs.extract (u+m) (u+m+n')).toList,le κ y ((xs.extract (u+k) (u+m))[(xs.extract (u+k) (u+m)).size-1]'(by lia)):=fun y hy=>by obtain⟨q,hq,hq2,rfl⟩:=bF (x:=xs) (i:=u+m) (k:=n') hy;rw[xl];have:=lo2 q hq;rw[(aV hk hq2).2,(aV hk (i:=u+m-1) (by lia)).2]at this;exact this
 have HB:∀(r:Array Keyed) (g:Nat),Done κ ((xs.extract (u+k) (u+m)).toList++(xs.extract (u+m) (u+m+n')).toList) r.toList ->
   wpS (model prog w) A E s ((modify fun st=>setArr st (r.toList.zipIdx.foldl (fun a (p,j)=>a.setIfInBounds (u+k+j) p) (arrOf st))) >>= fun _=>get >>= fun st=>pure (failedOf st).isNone) Q (setG (setPending st P) g):=fun r g ⟨rp,rs⟩=>by
  refine wpS_bind (wpS_modify ?_);refine wpS_bind (wpS_get ?_);refine wpS_pure ?_;have rl:r.toList.length=m-k+n':=by have:=rp.length_eq;simp only[Tz,TH,zx,zy]at this ⊢;exact this
  have rl2:r.size=m-k+n':=by rw[<- TH];exact rl
  have wl:(wr r.toList 0 (u+k) xs).toList=xs.toList.take (u+k)++(r.toList++xs.toList.drop (u+m+n')):=by rw[yV r.toList 0 (u+k) xs (by lia),Nat.add_zero,rl,show u+k+(m-k+n')=u+m+n' by lia,UU]
  have Jj:(wr r.toList 0 (u+k) xs).Perm xs:=by
   rw[Vl,wl];have e:=Mn xs (i:=u+k) (j:=u+m+n') (by lia) (by lia);rw[jT xs (i:=u+k) (j:=u+m) (k:=u+m+n') (by lia) (by lia) (by lia)]at e
   conv=>rhs;rw[e]
   exact VO.append_left _ (VO.append_right _ rp)
  have wz:(wr r.toList 0 (u+k) xs).size=xs.size:=yU _ _ _ _;have wk:KeysOf κ (wr r.toList 0 (u+k) xs):=fun p hp=>hk p ((Vl.mp Jj).mem_iff.mp hp);have PF:Out xs (wr r.toList 0 (u+k) xs) (u+k) (u+m+n'):=fun q hq=>by
   rw[<- Um,<- Um,wl];rcases hq with hq | hq
   ·rw[Tr (by simp;lia),U3 hq]
   ·rw[Tt (by simp;lia),Tt (by simp;lia),List.getElem?_drop]
    congr 1
    simp
    lia
  have hfl:(failedOf (setArr (setG (setPending st P) g) (wr r.toList 0 (u+k) xs))).isNone=true:=by show (failedOf st).isNone=true;rw[hB.failed];rfl
  have key:Q true (setG (setArr (setPending st P) (wr r.toList 0 (u+k) xs)) g):=by
   refine h _ g Jj ?_ (PF.mono (by lia) (by lia));rw[eO wk (by lia)];rw[jT _ (i:=u) (j:=u+k) (k:=u+m+n) (by lia) (by lia) (by lia),jT _ (i:=u+k) (j:=u+m+n') (k:=u+m+n) (by lia) (by lia) (by lia)];have part:∀i j,(j<=u+k\/u+m+n'<=i)->j<=xs.size->((wr r.toList 0 (u+k) xs).extract i j).toList=(xs.extract i j).toList:=fun i j hij hj=>by
    apply VW;intro q;by_cases hq:q<j-i
    ·rw[Um,Um,Array.getElem?_extract,Array.getElem?_extract,wz];split
     ·exact PF _ (by lia)
     ·rfl
    ·rw[Uk (by simp;lia),Uk (by simp;lia)]
   have mid:((wr r.toList 0 (u+k) xs).extract (u+k) (u+m+n')).toList=r.toList:=by rw[UT,UA,wl,List.drop_append_of_le_length (by simp;lia),List.drop_eq_nil_of_le (by simp<;>lia),U4,List.take_append_of_le_length (by lia),UZ (by lia)]
   rw[part u (u+k) (.inl (Nat.le_refl _)) (by lia),part (u+m+n') (u+m+n) (.inr (Nat.le_refl _)) (by lia),mid];have F:=(eO hk (i:=u) (j:=u+k) (by lia)).mp fun p q a b c=>s1 p q a b (by lia);have L:=(eO hk (i:=u+m+n') (j:=u+m+n) (by lia)).mp fun p q a b c=>s2 p q (by lia) b c;have fx:∀x∈(xs.extract u (u+k)).toList,∀y,(y∈(xs.extract (u+k) (u+m)).toList\/y∈(xs.extract (u+m) (u+m+n)).toList)->le κ x y:=fun x hx y hy=>by
    obtain⟨p,hp,hp2,rfl⟩:=bF (x:=xs) (i:=u) (k:=k) hx;have t1:=low p hp;rw[(aV hk hp2).2]at t1;rcases hy with hy | hy
    ·obtain⟨q,hq,hq2,rfl⟩:=bF (x:=xs) (i:=u+k) (k:=m-k) (by rw[show u+k+(m-k)=u+m by lia];exact hy);have:=s1 (u+p) (u+k+q) (by lia) (by lia) (by lia);rw[(aV hk hp2).2,(aV hk hq2).2]at this;exact this
    ·obtain⟨q,hq,hq2,rfl⟩:=bF (x:=xs) (i:=u+m) (k:=n) hy;have t2:=s2 (u+m) (u+m+q) (by lia) (by lia) (by lia);rw[(aV hk hq2).2]at t2;exact UO t1 t2
   have Sh:∀y∈(xs.extract (u+m) (u+m+n')).toList,y∈(xs.extract (u+m) (u+m+n)).toList:=fun y hy=>by rw[jT xs (i:=u+m) (j:=u+m+n') (k:=u+m+n) (by lia) (by lia) (by lia)];exact UQ _ hy
   have Si:∀y∈(xs.extract (u+m+n') (u+m+n)).toList,y∈(xs.extract (u+m) (u+m+n)).toList:=fun y hy=>by rw[jT xs (i:=u+m) (j:=u+m+n') (k:=u+m+n) (by lia) (by lia) (by lia)];exact TY _ hy
   refine Ud.mpr ⟨F,Ud.mpr ⟨rs,L,fun x hx y hy=>?_⟩,fun x hx y hy=>?_⟩
   ·rcases T9.mp (rp.mem_iff.mp hx) with hx | hx
    ·obtain⟨p,hp,hp2,rfl⟩:=bF (x:=xs) (i:=u+k) (k:=m-k) (by rw[show u+k+(m-k)=u+m by lia];exact hx);obtain⟨q,hq,hq2,rfl⟩:=bF (x:=xs) (i:=u+m+n') (k:=n-n') (by rw[show u+m+n'+(n-n')=u+m+n by lia];exact hy);have t1:=s1 (u+k+p) (u+m-1) (by lia) (by lia) (by lia);have t2:=hi (n'+q) (by lia) (by lia);rw[show u+m+(n'+q)=u+m+n'+q by lia,(aV hk hq2).2]at t2;rw[(aV hk hp2).2]at t1;exact UO t1 t2
    ·obtain⟨p,hp,hp2,rfl⟩:=bF (x:=xs) (i:=u+m) (k:=n') hx;obtain⟨q,hq,hq2,rfl⟩:=bF (x:=xs) (i:=u+m+n') (k:=n-n') (by rw[show u+m+n'+(n-n')=u+m+n by lia];exact hy);have:=s2 (u+m+p) (u+m+n'+q) (by lia) (by lia) (by lia);rw[(aV hk hp2).2,(aV hk hq2).2]at this;exact this
   ·rcases T9.mp hy with hy | hy
    ·rcases T9.mp (rp.mem_iff.mp hy) with hy | hy
     ·exact fx x hx y (.inl hy)
     ·exact fx x hx y (.inr (Sh y hy))
    ·exact fx x hx y (.inr (Si y hy))
  have goal:Q (failedOf (setArr (setG (setPending st P) g) (wr r.toList 0 (u+k) xs))).isNone (setArr (setG (setPending st P) g) (wr r.toList 0 (u+k) xs)):=by rw[hfl];exact key
  have Sj:arrOf (setG (setPending st P) g)=xs:=hxs;rw[<- Sj]at goal;exact goal
 by_cases hmn:m-k<=n'
 ·rw[if_pos hmn];exact wpS_bind (Mh hL kx ky sx sy (by lia) (by lia) first last (st:=setPending st P) hB.kind HB)
 ·rw[if_neg hmn];exact wpS_bind (Mm hL kx ky sx sy (by lia) (by lia) first last (st:=setPending st P) hB.kind HB)
end Ts
namespace Ts
open PySem PyProof.Rows
variable{A:Around}{E:Value->Shared->Prop}{s:Shared}{κ:KeyKind}{kd:SortKind}{a₀:Array Keyed}{prog:Program}{w:World}
noncomputable abbrev Run:=Nat×Nat×Nat
def Cov:List Run->Nat->Nat->Prop
 |[],i,j=>i=j
 |r::l,i,j=>r.1=i/\1<=r.2.1/\Cov l (i+r.2.1) j
theorem Cov.le:∀{l:List Run} {i j:Nat},Cov l i j->i+l.length<=j
 |[],i,j,h=>by cases h;simp
 |r::l,i,j,⟨h1,h2,h3⟩=>by have:=h3.le;rw[Uy];lia
theorem Cov.app:∀{l m:List Run} {i j:Nat},Cov (l++m) i j↔∃k,Cov l i k/\Cov m k j
 |[],m,i,j=>⟨fun h=>⟨i,rfl,h⟩,fun⟨k,h1,h2⟩=>by cases h1;exact h2⟩
 |r::l,m,i,j=>by
  constructor
  ·rintro⟨h1,h2,h3⟩;obtain⟨k,h4,h5⟩:=Cov.app.mp h3;exact⟨k,⟨h1,h2,h4⟩,h5⟩
  ·rintro⟨k,⟨h1,h2,h4⟩,h5⟩;exact⟨h1,h2,Cov.app.mpr ⟨k,h4,h5⟩⟩
theorem Cov.bounds:∀{l:List Run} {i j:Nat},Cov l i j->∀r∈l,i<=r.1/\r.1+r.2.1<=j
 |[],i,j,h,r,hr=>by cases hr
 |q::l,i,j,⟨h1,h2,h3⟩,r,hr=>by
  rcases Tp.mp hr with rfl | hr
  ·have:=h3.le;lia
  ·have:=h3.bounds r hr;lia
def Mp(κ:KeyKind)(xs:Array Keyed)(l:List Run):Prop:=∀r∈l,Seg κ xs r.1 (r.1+r.2.1)
structure SP(κ:KeyKind)(kd:SortKind)(a₀:Array Keyed)(st:SortSt)(P:List Run)(lo:Nat):Prop where
 sb:SB kd a₀ st
 pd:(pendingOf st).toList=P
 cov:Cov P 0 lo
 sg:Mp κ (arrOf st) P
 le:lo<=a₀.size
theorem ni(hL:d7 (model prog w) A E s κ kd)(h0:KeysOf κ a₀){st:SortSt}{L1 L2:List Run}{r1 r2:Run}{lo:Nat}(h:SP κ kd a₀ st (L1++r1::r2::L2) lo){Q:Bool->SortSt->Prop}
  (q:∀st',SP κ kd a₀ st' (L1++(r1.1,r1.2.1+r2.2.1,r1.2.2)::L2) lo->(∀i j,lo<=i->Seg κ (arrOf st) i j->Seg κ (arrOf st') i j)->Q true st'):wpS (model prog w) A E s (mergeAt' L1.length) Q st:=by
 obtain⟨k,c1,c2,c3,c4⟩:=Cov.app.mp h.cov;obtain⟨c5,c6,c7⟩:=c4;obtain⟨u,m,c⟩:=r1;obtain⟨v,n,c'⟩:=r2;dsimp only at c2 c3 c5 c6 c7 q;subst c2;subst c5;have hp1:(pendingOf st)[L1.length]?=some (u,m,c):=by rw[<- Um,h.pd,Tt (Nat.le_refl _),VF];rfl
 have hp2:(pendingOf st)[L1.length+1]?=some (u+m,n,c'):=by rw[<- Um,h.pd,Tt (by lia),show L1.length+1-L1.length=1 by lia];rfl
 have s1:=h.sg (u,m,c) (by simp);have s2:=h.sg (u+m,n,c') (by simp);have b2:=c7.le;refine PD hL h0 h.sb hp1 hp2 c3 c6 (by have:=h.le;lia) s1 s2 fun xs g hp hs ho=>q _ ⟨⟨?_,h.sb.kind,h.sb.failed⟩,?_,?_,?_,h.le⟩ fun i j hi hg=>ho.seg (.inr (by lia)) hg
 ·exact hp.trans h.sb.perm
 ·show (((pendingOf st).setIfInBounds L1.length (u,m+n,c)).eraseIdxIfInBounds (L1.length+1)).toList=_;have hz:(pendingOf st).size=L1.length+(2+L2.length):=by rw[<- TH,h.pd];simp;lia
  rw[Array.eraseIdxIfInBounds,dif_pos (by simp;lia)];rw[Array.toList_eraseIdx,Array.toList_setIfInBounds,h.pd];rw[Uo _ _ (Nat.le_refl _),VF,List.set_cons_zero,List.eraseIdx_append_of_length_le (by lia),show L1.length+1-L1.length=1 by lia];rfl
 ·refine Cov.app.mpr ⟨u,c1,rfl,by show 1<=m+n;lia,?_⟩;show Cov L2 (u+(m+n)) lo;rw[<- Nat.add_assoc];exact c7
 ·intro r hr;show Seg κ xs r.1 (r.1+r.2.1);rcases T9.mp hr with hr | hr
  ·have:=c1.bounds r hr;exact ho.seg (.inl (by lia)) (h.sg r (by simp[hr]))
  ·rcases Tp.mp hr with rfl | hr
   ·show Seg κ xs u (u+(m+n));rw[<- Nat.add_assoc];exact hs
   ·have:=c7.bounds r hr;exact ho.seg (.inr (by lia)) (h.sg r (by simp[hr]))
theorem two_last{α:Type}{l:List α}(h:1<l.length):∃L1 a b,l=L1++[a,b]:=by
 have h1:l≠[]:=by intro z;rw[z]at h;simp at h
 have h2:l.dropLast≠[]:=by
  intro z;have:=congrArg List.length z;rw[List.length_dropLast]at this;simp at this
  lia
 exact ⟨l.dropLast.dropLast,l.dropLast.getLast h2,l.getLast h1,by
  conv=>lhs;rw[<- List.dropLast_concat_getLast h1,<- List.dropLast_concat_getLast h2]
  simp⟩
theorem l9{n lo:Nat}{st2:SortSt}{P:List Run}(hn1:1<=n)(hn2:lo+n<=a₀.size)(sp2:SP κ kd a₀ st2 P lo)(sg2:Seg κ (arrOf st2) lo (lo+n)):SP κ kd a₀ (setPending st2 ((pendingOf st2).push (lo,n,0))) (P++[(lo,n,0)]) (lo+n):=
 ⟨sp2.sb.pend _,by show ((pendingOf st2).push _).toList=_;rw [Vz,sp2.pd],Cov.app.mpr ⟨lo,sp2.cov,rfl,hn1,rfl⟩,fun r hr=>by
  rcases T9.mp hr with hr | hr
  ·exact sp2.sg r hr
  ·rw[TJ]at hr;subst hr;exact sg2,hn2⟩
theorem uG{lo c:Nat}{st2:SortSt}{P:List Run}(sp2:SP κ kd a₀ st2 P lo):∃P',SP κ kd a₀ (setPending st2 ((pendingOf st2).modify ((pendingOf st2).size-1) fun x=>(x.fst,x.2.fst,c))) P' lo:=by
 have cv:∀(P:List Run) (k i j:Nat),Cov P i j->Cov (P.modify k fun x=>(x.fst,x.2.fst,c)) i j:=fun P=>by
  induction P with
  |nil=>intro k i j h;cases k<;>exact h
  |cons r P ih=>
   intro k i j h;cases k with
   |zero=>exact h
   |succ k=>exact⟨h.1,h.2.1,ih k _ _ h.2.2⟩
 have sg:∀(P:List Run) (k:Nat),Mp κ (arrOf st2) P->Mp κ (arrOf st2) (P.modify k fun x=>(x.fst,x.2.fst,c)):=fun P=>by
  induction P with
  |nil=>intro k h;cases k<;>exact h
  |cons r P ih=>
   intro k h;cases k with
   |zero=>
    intro q hq;rcases Tp.mp (show q∈(r.1,r.2.1,c)::P from hq) with rfl | hq
    ·exact h r (by simp)
    ·exact h q (by simp[hq])
   |succ k=>
    intro q hq;rcases Tp.mp (show q∈r::P.modify k _ from hq) with rfl | hq
    ·exact h q (by simp)
    ·exact ih k (fun z hz=>h z (by simp[hz])) q hq
 exact⟨P.modify ((pendingOf st2).size-1) fun x=>(x.fst,x.2.fst,c),sp2.sb.pend _,by show ((pendingOf st2).modify _ _).toList=_;rw[Array.toList_modify,sp2.pd],cv _ _ _ _ sp2.cov,sg _ _ sp2.sg,sp2.le⟩
theorem yW(hL:d7 (model prog w) A E s κ kd)(h0:KeysOf κ a₀){st:SortSt}(hB:SB kd a₀ st)(hp:pendingOf st=#[])(h1:1<=a₀.size){Q:Unit->SortSt->Prop}
  (h:∀st',SB kd a₀ st'->Seg κ (arrOf st') 0 a₀.size->Q () st'):wpS (model prog w) A E s sortRuns' Q st:=by
 rw[sortRuns'_eq];refine wpS_bind (wpS_get ?_)
 try dsimp only
 rw[hB.size]
 generalize minRun' a₀.size a₀.size 0=mr
 refine wpS_bind (wpS_mono (wpS_forRange (I:=fun x c st'=>∃ lo P,c=(none,lo)∧x≤lo∧SP κ kd a₀ st' P lo)
  (Q:=fun c st'=>∃P,c=(none,a₀.size)/\SP κ kd a₀ st' P a₀.size) ?st1 ?fi1 ⟨0,[],rfl,Nat.le_refl _,⟨hB,by rw[hp],rfl,fun r hr=>by (cases hr),by lia⟩⟩) ?po1)
 case fi1=>
  rintro c st' ⟨lo,P,rfl,hx,sp⟩;have:=sp.le;have e:lo=a₀.size:=by lia
  subst e;exact⟨P,rfl,sp⟩
 case st1=>
  rintro x c st' _ hx ⟨lo,P,rfl,hxl,sp⟩
  try dsimp only
  by_cases hlo:lo≥a₀.size
  ·rw[if_pos hlo];have:=sp.le;have e:lo=a₀.size:=by lia
   subst e;exact wpS_pure ⟨P,rfl,sp⟩
  rw[if_neg hlo];refine wpS_bind (L7 hL h0 sp.sb (by lia) (by lia) fun n xs hn1 hn2 hpm hsg hout=>?_)
  try dsimp only
  have Jk:Out (arrOf st') xs lo a₀.size:=hout.mono (Nat.le_refl _) (by lia);have spx:∀ys,ys.Perm (arrOf st')->Out (arrOf st') ys lo a₀.size->SP κ kd a₀ (setArr st' ys) P lo:=fun ys hpm hout=>⟨sp.sb.arr hpm,sp.pd,sp.cov,fun r hr=>hout.seg (.inl (sp.cov.bounds r hr).2) (sp.sg r hr),sp.le⟩;by_cases hmr:n<mr
  ·rw[if_pos hmr];refine wpS_bind (wpS_lift (wpAny_rule ⟨rfl,?_⟩));have hB2:SB kd a₀ (setArr st' xs):=sp.sb.arr hpm;refine wpS_bind (L6 hL h0 hB2 (by lia) hn1 (by lia) hsg fun ys hp2 hs2 ho2=>?_);rw[if_neg (by decide)];have hk1:1<=min (a₀.size-lo) mr:=by lia
   have hk2:lo+min (a₀.size-lo) mr<=a₀.size:=by lia
   have sp2:=spx ys (hp2.trans hpm) (Jk.trans (ho2.mono (Nat.le_refl _) (by lia)));have sg2:Seg κ (arrOf (setArr st' ys)) lo (lo+min (a₀.size-lo) mr):=hs2;show wpS _ _ _ _ _ _ (setArr st' ys)
   generalize min (a₀.size-lo) mr=k at hk1 hk2 sg2 ⊢
   refine wpS_bind (wpS_get ?_);split
   ·rename_i u m c hb;refine wpS_bind (wpS_mono (wpS_forRange (I:=fun _ c st'=>c=(none,())/\∃P',SP κ kd a₀ st' P' lo/\Seg κ (arrOf st') lo (lo+k)) (Q:=fun c st'=>c=(none,())/\∃P',SP κ kd a₀ st' P' lo/\Seg κ (arrOf st') lo (lo+k)) ?stA (fun c st' z=>z) ⟨rfl,P,sp2,sg2⟩) ?poA)
    case stA=>
     rintro x c st' _ _ ⟨rfl,P',sp',sg'⟩;refine wpS_bind (wpS_get ?_)
     try dsimp only
     split
     ·rename_i e1 e2 old ho;split
      ·exact wpS_pure ⟨rfl,P',sp',sg'⟩
      ·have hz:1<(pendingOf st').size:=by
        by_cases z:(pendingOf st').size>1
        ·exact z
        ·rw[if_neg z]at ho;cases ho
       obtain⟨L1,r1,r2,rfl⟩:=two_last (l:=P') (by rw[<- sp'.pd,TH];exact hz);have hl:(pendingOf st').size-2=L1.length:=by rw[<- TH,sp'.pd];simp
       rw[hl];refine wpS_bind (ni hL h0 sp' fun st3 sp3 k3=>?_);rw[if_neg (by decide)];exact wpS_pure ⟨rfl,_,sp3,k3 _ _ (Nat.le_refl _) sg'⟩
     ·exact wpS_pure ⟨rfl,P',sp',sg'⟩
    case poA=>
     rintro c st' ⟨rfl,P',sp',sg'⟩
     try dsimp only
     refine wpS_bind (wpS_modify ?_);obtain⟨P2,sp4⟩:=uG (c:=power' a₀.size (2*u+m) (2*u+m+m+k) a₀.size) sp';exact wpS_bind (wpS_modify (wpS_pure ⟨lo+k,_,rfl,by lia,l9 (by lia) (by lia) sp4 sg'⟩))
   ·exact wpS_bind (wpS_modify (wpS_pure ⟨lo+k,_,rfl,by lia,l9 (by lia) (by lia) sp2 sg2⟩))
  ·rw[if_neg hmr];have sp2:=spx xs hpm Jk;have sg2:Seg κ (arrOf (setArr st' xs)) lo (lo+n):=hsg;refine wpS_bind (wpS_get ?_);split
   ·rename_i u m c hb;refine wpS_bind (wpS_mono (wpS_forRange (I:=fun _ c st'=>c=(none,())/\∃P',SP κ kd a₀ st' P' lo/\Seg κ (arrOf st') lo (lo+n)) (Q:=fun c st'=>c=(none,())/\∃P',SP κ kd a₀ st' P' lo/\Seg κ (arrOf st') lo (lo+n)) ?stA (fun c st' z=>z) ⟨rfl,P,sp2,sg2⟩) ?poA)
    case stA=>
     rintro x c st' _ _ ⟨rfl,P',sp',sg'⟩;refine wpS_bind (wpS_get ?_)
     try dsimp only
     split
     ·rename_i e1 e2 old ho;split
      ·exact wpS_pure ⟨rfl,P',sp',sg'⟩
      ·have hz:1<(pendingOf st').size:=by
        by_cases z:(pendingOf st').size>1
        ·exact z
        ·rw[if_neg z]at ho;cases ho
       obtain⟨L1,r1,r2,rfl⟩:=two_last (l:=P') (by rw[<- sp'.pd,TH];exact hz);have hl:(pendingOf st').size-2=L1.length:=by rw[<- TH,sp'.pd];simp
       rw[hl];refine wpS_bind (ni hL h0 sp' fun st3 sp3 k3=>?_);rw[if_neg (by decide)];exact wpS_pure ⟨rfl,_,sp3,k3 _ _ (Nat.le_refl _) sg'⟩
     ·exact wpS_pure ⟨rfl,P',sp',sg'⟩
    case poA=>
     rintro c st' ⟨rfl,P',sp',sg'⟩
     try dsimp only
     refine wpS_bind (wpS_modify ?_);obtain⟨P2,sp4⟩:=uG (c:=power' a₀.size (2*u+m) (2*u+m+m+n) a₀.size) sp';exact wpS_bind (wpS_modify (wpS_pure ⟨lo+n,_,rfl,by lia,l9 (by lia) (by lia) sp4 sg'⟩))
   ·exact wpS_bind (wpS_modify (wpS_pure ⟨lo+n,_,rfl,by lia,l9 (by lia) (by lia) sp2 sg2⟩))
 case po1=>
  rintro c st' ⟨P,rfl,sp⟩
  try dsimp only
  have hPl:=sp.cov.le;refine wpS_bind (wpS_mono (wpS_forRange (I:=fun x c st'=>c=(none,())/\∃P,SP κ kd a₀ st' P a₀.size/\P.length+x<=a₀.size+1) (Q:=fun c st'=>c=(none,())/\∃P,SP κ kd a₀ st' P a₀.size/\P.length<=1) ?st2 ?fi2 ⟨rfl,P,sp,by lia⟩) ?po2)
  case fi2=>rintro c st' ⟨rfl,P,sp,hl⟩;exact⟨rfl,P,sp,by lia⟩
  case st2=>
   rintro x c st' _ hx ⟨rfl,P,sp,hl⟩
   try dsimp only
   refine wpS_bind (wpS_get ?_);have Dy:(pendingOf st').size=P.length:=by rw[<- TH,sp.pd]
   by_cases h2:(pendingOf st').size<=1
   ·rw[if_pos h2];exact wpS_pure ⟨rfl,P,sp,by lia⟩
   rw[if_neg h2]
   generalize hi:(if (Option.any (fun z=>decide (z<((pendingOf st')[(pendingOf st').size-2+1]?.elim 0 fun z=>z.2.1))) (if (pendingOf st').size-2>0 then (pendingOf st')[(pendingOf st').size-2-1]?.map fun z=>z.2.1 else none))=true then (pendingOf st').size-2-1 else (pendingOf st').size-2)=i
   have hle:∀(c:Bool) (m:Nat),(if c=true then m-1 else m)<=m:=fun c m=>by cases c<;>simp
   have hi2:i<=(pendingOf st').size-2:=hi▸hle _ _;have hib:i+1<P.length:=by lia
   have e:P=P.take i++P[i]::P[i+1]::P.drop (i+2):=by have a1:=Uz (l:=P) (i:=i) (by lia);have a2:=Uz (l:=P) (i:=i+1) (by lia);rw[<- a2,<- a1,Vk]
   have sp':=sp;rw[e]at sp';have xM:(P.take i).length=i:=by rw[UD];lia
   have mg:=ni (A:=A) (E:=E) (s:=s) hL h0 sp' (Q:=fun b st''=>b=true/\∃P2,SP κ kd a₀ st'' P2 a₀.size/\P2.length+(x+1)<=a₀.size+1) fun st3 sp3 k3=>⟨rfl,_,sp3,by simp;lia⟩;rw[xM]at mg;refine wpS_bind (wpS_mono mg fun b st3 hb=>?_);obtain⟨rfl,P2,sp2,hl2⟩:=hb;rw[if_neg (by decide)];exact wpS_pure ⟨rfl,P2,sp2,hl2⟩
  case po2=>
   rintro c st' ⟨rfl,P,sp,hl⟩;refine wpS_pure (h st' sp.sb ?_)
   match P,hl,sp with
   |[],_,sp=>have:=sp.cov;unfold Cov at this;lia
   |[r],_,sp=>obtain⟨c1,c2,c3⟩:=sp.cov;have:=sp.sg r (by simp);unfold Cov at c3;rw[c1,c3]at this;exact this
   |_::_::_,hl,_=>simp at hl
end Ts
namespace Ts
open PySem PyProof.Rows
variable{A:Around}{E:Value->Shared->Prop}{s:Shared}{κ:KeyKind}{kd:SortKind}{prog:Program}{w:World}
theorem done_one{vs:List Value}(h:vs.toArray.size<2):Seg κ (pairsOf vs) 0 (pairsOf vs).size:=fun p q _ h2 h3=>by
 rw[pairsOf_size]at h3;simp at h;have:p=q:=by lia
 subst this;exact UC _
theorem GR{a:Addr}{vs:List Value}{n:Nat}{R:Fin->Shared->Prop}(ho:s.heap.get? a=some (seqObj "list" vs.toArray n))(hn:vs.length<=100000)
  (hk:KeysOf κ (pairsOf vs)) (hkk:∀h',(∀b o,b≠a->s.heap.get? b=some o->h'.get? b=some o)->2<=vs.length->∀{Q:SortKind->Shared->Prop},Q kd { s with heap:=h' }->wpAny (model prog w) A (keyKind' vs.toArray) Q E { s with heap:=h' })
  (hL:∀h',(∀b o,b≠a->s.heap.get? b=some o->h'.get? b=some o)->d7 (model prog w) A E { s with heap:=h' } κ kd)
  (h:∀st':SortSt,(arrOf st').Perm (pairsOf vs)->Seg κ (arrOf st') 0 (pairsOf vs).size->R (.done (.ret .none)) { s with heap:=sortedHeap s.heap a vs ((arrOf st').map (·.2)) }) :
  wpAny (model prog w) A (Builtin.«list.sort» ⟨[.ref a],[]⟩) R E s:=by
 have lt:=Tn ho;have fits:sizeLine=sizeLine:=rfl;rw[list_sort_plain];refine wpAny_bind (listItems_at ho rfl (wpAny_bind (listUpdate_at ho rfl ?_ (hsz:=by simp;exact Nat.le_trans hn (by decide)) (hsz2:=T8 _))));obtain⟨ep,h1⟩:∃ep,(s.heap.update a (T3 fun _=>#[])).get? a=some (seqObj "list" #[] ep):=⟨_,get?_update_seq ho _⟩
 refine wpAny_bind (seqEpoch_at h1 rfl (wpAny_bind (wpAny_newTuple (wpAny_bind (wpAny_newList (wpAny_holding ?_))))));have h6:(((s.heap.update a (T3 fun _=>#[])).push (seqObj "tuple" vs.toArray 0)).push (seqObj "list" #[] 0)).get? a=some (seqObj "list" #[] ep):=by have z1:(s.heap.update a (T3 fun _=>#[])).objs.size=s.heap.objs.size:=Vd _ _ _;rw[UW _ _ _ (by rw[size_push',z1];exact Tu (UH lt)),UW _ _ _ (by rw[z1];exact Tu lt)];exact h1
 have ext:∀b o,b≠a->s.heap.get? b=some o->(((s.heap.update a (T3 fun _=>#[])).push (seqObj "tuple" vs.toArray 0)).push (seqObj "list" #[] 0)).get? b=some o:=fun b o hb e=>by have z1:(s.heap.update a (T3 fun _=>#[])).objs.size=s.heap.objs.size:=Vd _ _ _;have lb:=Tn e;rw[UW _ _ _ (by rw[size_push',z1];exact Tu (UH lb)),UW _ _ _ (by rw[z1];exact Tu lb),Us _ _ _ _ hb];exact e
 show wpAny (model prog w) A _ R E { s with heap:=(((s.heap.update a (T3 fun _=>#[])).push (seqObj "tuple" vs.toArray 0)).push (seqObj "list" #[] 0)) };have hkk':=hkk _ ext;have hL':=hL _ ext;have HB:∀st':SortSt,failedOf st'=none->(arrOf st').Perm (pairsOf vs)->Seg κ (arrOf st') 0 (pairsOf vs).size ->
   wpAny (model prog w) A (do
    let d <- seqEpoch a
    let touched:=d != ep
    Builtin.List.listUpdate (TZ a) fun _=>Array.map (fun x=>x.snd) (arrOf st')
    if let some e:=failedOf st' then
     rule "list.sort.comparison-raised"
     throw e
    if touched then
     rule "list.sort.modified"
     raiseError "ValueError" "list modified during sort"
    ret .none) R E { s with heap:=(((s.heap.update a (T3 fun _=>#[])).push (seqObj "tuple" vs.toArray 0)).push (seqObj "list" #[] 0)) }:=fun st' hf hp hs=>by
  refine wpAny_bind (seqEpoch_at h6 rfl ?_);have hz:(Array.map (fun x=>x.snd) (arrOf st')).size=vs.length:=by rw[Array.size_map,hp.size_eq,pairsOf_size]
  refine wpAny_bind (listUpdate_at h6 rfl ?_ (hsz:=T8 _) (hsz2:=by rw[hz];exact Nat.le_trans hn (by decide)));rw[hf];simp only[bne_self_eq_false,UN,if_false];exact wpAny_pure (h st' hp hs)
 by_cases h2:vs.toArray.size<2
 ·rw[if_pos h2,if_pos h2];refine wpAny_bind (wpAny_pure ?_);refine wpAny_bind (show wpAny (model prog w) A ((pure ():StateT SortSt Sem Unit).run (VS general' (vs.toArray.zip vs.toArray) #[] 7 none)) _ E _ from ?_);rw[StateT.run_pure];refine wpAny_pure ?_;exact HB (VS general' (vs.toArray.zip vs.toArray) #[] 7 none) rfl (Array.Perm.refl _) (done_one h2)
 ·rw[if_neg h2,if_neg h2];have hl:2<=vs.length:=by simp at h2;lia
  refine wpAny_bind (hkk' hl ?_);refine wpAny_bind (wpAny_mono (yW (κ:=κ) hL' hk (st:=VS kd (vs.toArray.zip vs.toArray) #[] 7 none) ⟨Array.Perm.refl _,rfl,rfl⟩ rfl (by rw [pairsOf_size];lia)
   (Q:=fun _ st'=>(arrOf st').Perm (pairsOf vs)/\failedOf st'=none/\Seg κ (arrOf st') 0 (pairsOf vs).size) fun st' sb sg=>⟨sb.perm,sb.failed,sg⟩) ?_ fun _ _ e=>e)
  rintro⟨⟨⟩,st'⟩ s' ⟨rfl,hp,hf,hs⟩;exact HB st' hf hp hs
end Ts
namespace Ts
open PySem PyProof.Rows
variable{A:Around}{E:Value->Shared->Prop}{s:Shared}{κ:KeyKind}{kd:SortKind}{a₀:Array Keyed}{prog:Program}{w:World}
end Ts
namespace Ts
open PySem PyProof.Rows
variable{A:Around}{E:Value->Shared->Prop}{s:Shared}{κ:KeyKind}{kd:SortKind}{prog:Program}{w:World}
end Ts
namespace Dm
section
variable{α:Type}
noncomputable def lx:List Int->List Int->Bool
 |[],[]=>false
 |[],_::_=>true
 |_::_,[]=>false
 |a::x,b::y=>if a=b then lx x y else decide (a<b)
theorem gB:∀a,lx a a=false
 |[]=>rfl
 |a::x=>by rw[lx,if_pos rfl,gB x]
theorem jU:∀a b c,lx a b=true->lx b c=true->lx a c=true
 |[],[],_,h,_=>by cases h
 |[],_::_,[],_,h=>by cases h
 |[],_::_,_::_,_,_=>rfl
 |_::_,[],_,h,_=>by cases h
 |_::_,_::_,[],_,h=>by cases h
 |a::x,b::y,c::z,h1,h2=>by
  rw[lx]at h1 h2 ⊢;by_cases e1:a=b
  ·subst e1;rw[if_pos rfl]at h1;by_cases e2:a=c
   ·subst e2;rw[if_pos rfl]at h2 ⊢;exact jU x y z h1 h2
   ·rw[if_neg e2]at h2 ⊢;exact h2
  ·rw[if_neg e1]at h1;have h1:=of_decide_eq_true h1;by_cases e2:b=c
   ·subst e2;rw[if_neg e1];exact decide_eq_true h1
   ·rw[if_neg e2]at h2;have h2:=of_decide_eq_true h2;rw[if_neg (by lia)];exact decide_eq_true (by lia)
theorem jV:∀a b,lx a b=false->lx b a=false->a=b
 |[],[],_,_=>rfl
 |[],_::_,h,_=>by cases h
 |_::_,[],_,h=>by cases h
 |a::x,b::y,h1,h2=>by
  rw[lx]at h1 h2;by_cases e:a=b
  ·subst e;rw[if_pos rfl]at h1 h2;rw[jV x y h1 h2]
  ·rw[if_neg e]at h1;rw[if_neg (fun z=>e z.symm)]at h2;have h1:=of_decide_eq_false h1;have h2:=of_decide_eq_false h2
   lia
theorem CO(a b c:List Int)(h:lx a c=true):lx a b=true\/lx b c=true:=by
 by_cases h1:lx a b=true
 ·exact .inl h1
 ·refine .inr ?_;have h1':lx a b=false:=by simpa using h1
  by_cases h2:lx b a=true
  ·exact jU b a c h2 h
  ·have:=jV a b h1' (by simpa using h2);subst this;exact h
noncomputable def ins{α:Type}(lt:α->α->Bool)(x:α):List α->List α
 |[]=>[x]
 |y::l=>if lt y x then y::ins lt x l else x::y::l
noncomputable def cB{α:Type}(lt:α->α->Bool):List α->List α
 |[]=>[]
 |x::l=>ins lt x (cB lt l)
theorem nj(lt:α->α->Bool)(x:α):∀l,(ins lt x l).Perm (x::l)
 |[]=>List.Perm.refl _
 |y::l=>by
  rw[ins];split
  ·exact((nj lt x l).cons y).trans (VO.swap x y l)
  ·exact List.Perm.refl _
theorem ck(lt:α->α->Bool):∀l,(cB lt l).Perm l
 |[]=>List.Perm.refl _
 |x::l=>(nj lt x _).trans ((ck lt l).cons x)
theorem nk{lt:α->α->Bool}(tr:∀a b c,lt b a=false->lt c b=false->lt c a=false)(as:∀a b,lt a b=true->lt b a=false)(x:α):∀l:List α,l.Pairwise (fun a b=>lt b a=false)->(ins lt x l).Pairwise (fun a b=>lt b a=false)
 |[],_=>by simp[ins]
 |y::l,h=>by
  rw[ins];obtain⟨h1,h2⟩:=Ux.mp h;split
  ·rename_i hl;refine Ux.mpr ⟨fun z hz=>?_,nk tr as x l h2⟩;rcases Tp.mp ((nj lt x l).mem_iff.mp hz) with rfl | hz
   ·exact as _ _ hl
   ·exact h1 z hz
  ·rename_i hl;have hl':lt y x=false:=by simpa using hl
   refine Ux.mpr ⟨fun z hz=>?_,h⟩;rcases Tp.mp hz with rfl | hz
   ·exact hl'
   ·exact tr _ _ _ hl' (h1 z hz)
theorem fh{lt:α->α->Bool}(tr:∀a b c,lt b a=false->lt c b=false->lt c a=false)(as:∀a b,lt a b=true->lt b a=false):∀l:List α,(cB lt l).Pairwise (fun a b=>lt b a=false)
 |[]=>List.Pairwise.nil
 |x::l=>nk tr as x _ (fh tr as l)
theorem lD{lt:α->α->Bool}(tot:∀a b,lt a b=false->lt b a=false->a=b):∀{l m:List α},l.Perm m->l.Pairwise (fun a b=>lt b a=false)->m.Pairwise (fun a b=>lt b a=false)->l=m
 |[],m,p,_,_=>(List.nil_perm.mp p).symm
 |x::l,[],p,_,_=>by have:=p.length_eq;simp at this
 |x::l,y::m,p,h1,h2=>by
  obtain⟨a1,a2⟩:=Ux.mp h1;obtain⟨b1,b2⟩:=Ux.mp h2;have e:x=y:=by
   rcases Tp.mp (p.mem_iff.mp To) with hx | hx
   ·exact hx
   ·rcases Tp.mp (p.mem_iff.mpr (To (a:=y) (l:=m))) with hy | hy
    ·exact hy.symm
    ·exact tot x y (b1 x hx) (a1 y hy)
  subst e;rw[lD tot (VO.cons_inv p) a2 b2]
end
end Dm
namespace Br
open PySem PySem.Spec PyProof.Rows L2
noncomputable def lexOrd:KeyOrd:=⟨List Int,Dm.lx,Dm.gB,Dm.jU,fun a b c h=>Dm.CO a b c h,Dm.jV⟩
noncomputable def jW:List V->Option (List Int)
 |[]=>some []
 |.int i::r=>(jW r).map fun ns=>i::ns
 |_=>none
theorem gC:∀ns:List Int,jW (ns.map V.int)=some ns
 |[]=>rfl
 |n::ns=>by rw[PU,jW,gC ns];rfl
theorem uH:∀{xs:List V} {ns:List Int},jW xs=some ns->xs=ns.map V.int
 |[],ns,h=>by cases h;rfl
 |.int i::r,ns,h=>by
  unfold jW at h;cases e:jW r with
  |none=>rw[e]at h;cases h
  |some ms=>rw[e]at h;cases h;rw[uH e];rfl
 |.non::_,_,h=>by cases h
 |.bl _::_,_,h=>by cases h
 |.str _::_,_,h=>by cases h
 |.ref _::_,_,h=>by cases h
 |.byt _::_,_,h=>by cases h
 |.flt _::_,_,h=>by cases h
 |.ty _::_,_,h=>by cases h
section
variable{prog:Program}{w:World}{A:Around}{E:Value->Shared->Prop}{s:Shared}
theorem qA{κ:KeyKind}{kd:SortKind}(h:∀(x y:Keyed) (a b:κ.α) {Q:Bool->Shared->Prop} {E:Value->Shared->Prop},κ.keyOf x.1=some a->κ.keyOf y.1=some b->Q (κ.blt a b) s->wpAny (model prog w) A (keyLt' kd x.1 y.1) Q E s):Ts.d7 (model prog w) A E s κ kd:=fun x y a b st Q ha hb hk q=>by rw[lt'_eq];refine wpS_bind (wpS_get ?_);rw[hk];refine wpS_bind (wpS_lift (wpAny_attempt (h x y a b ha hb ⟨rfl,?_⟩)));exact wpS_pure q
end
section
variable{X:Cx}
theorem AK{vs:List Value}{q:Keyed}(h:q∈(pairsOf vs).toList):q.1=q.2/\q.1∈vs:=by
 rw[pairsOf_toList]at h;have hh:∀(l:List Value) (q:Keyed),q∈l.zip l->q.1=q.2/\q.1∈l:=fun l=>by
  induction l with
  |nil=>intro q h;cases h
  |cons v l ih=>
   intro q h;rw[UP]at h;rcases Tp.mp h with rfl | h
   ·exact⟨rfl,To⟩
   ·exact⟨(ih q h).1,Tq _ (ih q h).2⟩
 exact hh _ q h
end
end Br
namespace Dm
noncomputable def GS(i:Nat)(e:FE):FS:=fun ρ=>match ρ[i]? with
 | some (.ow (.lst _))=>(match e ρ with
  |none=>none
  |some (x,ρ1)=>match pk ρ1 x with
   | some (.lst es)=>(match ρ1[i]? with
    |some (.ow (.lst ds))=>if ds.length+es.length<=SZ then some (.nx (ρ1.set i (.ow (.lst (ds++es))))) else none
    |_=>none)
   |_=>none)
 |_=>none
noncomputable def sd(i:Nat)(e:FE):FE:=fun ρ=>match ρ[i]? with
 | some (.ow (.lst _))=>(match e ρ with
  | some (.val (.int j),ρ1)=>(match ρ1[i]? with
   | some (.ow (.lst ds))=>if 0≤j∧j≤BIG then (match ds[j.toNat]? with
     |some d=>some (.val d,ρ1.set i (.ow (.lst (ds.eraseIdx j.toNat))))
     |none=>none) else none
   |_=>none)
  |_=>none)
 |_=>none
noncomputable def isN:Dat->Bool
 |.non=>true
 |_=>false
noncomputable def GU:Dat->Dat->Option RV
 |d,.non=>vB (isN d)
 |_,_=>none
noncomputable def fJ(bad:List Dat->Bool)(fs:List FE)(ρ:Env):Option Env:=match eAs fs ρ with
 |none=>none
 |some (xs,ρ1)=>match pks ρ1 xs with
  |none=>none
  |some ds=>if bad ds then some ρ1 else none
noncomputable def rIf(t:FT)(R S:Env->Option Env)(ρ:Env):Option Env:=match t ρ with
 |none=>none
 |some (true,ρ1)=>R ρ1
 |some (false,ρ1)=>S ρ1
noncomputable def PJ(ρ:Env):Option Env:=some ρ
noncomputable def rNo(_:Env):Option Env:=none
noncomputable def fnX(n m:Nat)(R:Env->Option Env)(ds:List Dat):Bool:=decide (ds.length=n)&&(R (ds.map .sh++Dk m .un)).isSome
noncomputable def se(C:Nat)(b:Bool):Dat->Option RV
 |.exc C'=>if C'=C then vB b else none
 |_=>none
end Dm
namespace Br
open PySem PySem.Spec PyProof.Rows L2
theorem qB{H0:Hp}:∀ns:List Int,aD H0 (ns.map V.int) (ns.map Dat.int)
 |[]=>.nil
 |n::ns=>.cons (.int n) (qB ns)
section
variable{X:Cx}{a b c e:Expr}{f fa fb:FE}{fs:List FE}{p pos:Pos}
def PK(neg:Bool):R2:=fun x y H Q=>y=.non/\Q (.bl (if neg then !decide (x=V.non) else decide (x=V.non))) H
theorem GV{x:V}{v:Value}(r:RelV x v):(v == Value.none)=decide (x=V.non):=by
 cases x with
 |non=>cases r;rfl
 |bl b=>cases r;rfl
 |int i=>obtain⟨t,rfl⟩:=r;rfl
 |str z=>obtain⟨t,rfl⟩:=r;rfl
 |byt z=>obtain⟨t,rfl⟩:=r;rfl
 |flt z=>obtain⟨t,rfl⟩:=r;rfl
 |ref z=>cases r;rfl
 |ty z=>cases r;rfl
theorem Mq:OpR X (compareOp .Is) (PK false):=by intro uV s σ H x y v u Q I rx ry h;obtain⟨rfl,q⟩:=h;cases ry;refine is_none_gen ?_;rw[GV rx];exact⟨.bl _,H,I,rfl,q⟩
theorem yX{H0 H:Hp}{x:V}{d:Dat}(r:kG H0 H x d):decide (x=V.non)=Dm.isN d:=by
 rcases r with r | ⟨a,rfl,w⟩
 ·cases r<;>rfl
 ·cases d with
  |non=>exact TF w
  |_=>rfl
theorem Mr:OpD (PK false) Dm.GU:=by
 intro H0 H x y dx dy z Q s rx ry e k;unfold Dm.GU at e;split at e
 ·cases e;have hy:=yX ry;have:y=V.non:=of_decide_eq_true (hy.trans rfl);refine⟨this,?_⟩;rw[if_neg (by decide),yX rx];exact k _ H0 H (aJ.refl s) (.bl _)
 ·cases e
theorem PL(ha:DE X a fa)(hb:DE X b fb):DT X (.Compare a [.Is] [b] pos) (Dm.tV (Dm.e2 Dm.GU fa fb)):=lu Mq Mr ha hb (dG _)
end
section
variable{X:Cx}
def Jl:V->List V->Hp->VK->Prop:=fun x vs H Q=>∃l b xs zs,x=.ref l/\vs=[.ref b]/\H l=some (.lst xs)/\Rd H b (.lst zs)/\xs.length+zs.length<=sizeLine/\Q .non (upd H l (.lst (xs++zs)))
theorem GW:MtM X "list.extend" Jl:=by
 intro uV s σ H x vs v us Q I rx rv h;obtain⟨l,b,xs,zs,rfl,rfl,hH,hB,hz,q⟩:=h;cases rx;obtain⟨u,rfl,ru⟩:=rv.one;cases ru;obtain⟨z,its,n,r,hl,e⟩:=I.Ld hH;obtain⟨z2,its2,n2,r2,e2⟩:=hB.ok I.hok;have hl2:=r2.length;have tot:its.toArray.size+its2.toArray.size<=sizeLine:=by simp only[Sx];lia
 have short:¬(!its.toArray.isEmpty&&Vq (its.toArray.size+its2.toArray.size))=true:=by rw[t8 tot,Bool.and_false];decide
 refine call_meets F.slot_list_extend ⟨_,e,rfl⟩ F.entry_list_extend (F.args_list_extend_2 _ _) (AutoSeq1.list_extend_list_list_0 l its.toArray n b its2.toArray n2 short (by rw[Sx];lia) (by lia)) ⟨e,e2,?_⟩;exact⟨.non,_,I.Lb (its':=its++its2) hH e (by simp) (r.append r2) (by rw[Tz];lia),rfl,q⟩
end
section
variable{σ:L2.St}{H:Hp}{Q:VK}{D:Ends}
theorem PM{K:eg}{i:Nat}{f:FE}(h:tDS (Dm.GS i f) D σ H):tO (tBM K "list" Jl (rA i) (tDA [f])) D σ H:=by
 obtain⟨H0,ρ,o,st,e,k⟩:=h;unfold Dm.GS at e;split at e
 case h_2=>cases e
 rename_i ds0 h0;obtain⟨a0,q0,n0,w0⟩:=st.ow i _ h0;refine⟨_,q0,?_⟩;split at e
 ·cases e
 rename_i x ρ1 e1;split at e
 case h_2=>cases e
 rename_i es p1;split at e
 case h_2=>cases e
 rename_i ds h2;split at e
 case isFalse=>cases e
 rename_i hz;cases e;obtain⟨xs0,y0,_⟩:=w0;refine⟨.inl ⟨rfl,xs0,.inl (.inl y0)⟩,?_⟩;refine⟨H0,ρ,[x],ρ1,st,by unfold Dm.eAs;rw[e1];rfl,fun vs H0' H' t r=>?_⟩;cases r with
 |cons r rr=>
  cases rr;obtain⟨b,zs,rfl,qb,rb⟩:=br t.st.same (r.look t.st p1);obtain⟨a,q,n,w⟩:=t.st.ow i _ h2;rw[q0]at q;cases q;obtain⟨xs,y,rs⟩:=w;refine⟨a0,b,xs,zs,rfl,rfl,y,qb,by rw[rs.length,rb.length];exact Nat.le_trans hz (by decide),?_⟩;have ow:ao σ ρ1 a0:=⟨i,_,h2,q0⟩
  exact k σ H0' _ ⟨t.st.write h2 q0 ⟨_,ak,rs.append rb⟩,t.stp.trans (Stp.write ow) fun b z=>.inl (t.own b z),fun b z=>.inl (t.own b (cz h2 z)),rfl⟩
theorem nq{α:Type}(l:List α)(i:Nat):l.eraseIdx i=l.take i++l.drop (i+1):=List.eraseIdx_eq_take_drop_succ l i
theorem xq{H0:Hp}{vs:List V}{ds:List Dat}(i:Nat)(r:aD H0 vs ds):aD H0 (vs.eraseIdx i) (ds.eraseIdx i):=by rw[nq,nq];exact(r.take i).append (r.drop (i+1))
theorem GX{K:eg}{i:Nat}{f:FE}(h:tD (Dm.sd i f) σ H Q):tBM K "list" BK (rA i) (tDA [f]) σ H Q:=by
 obtain⟨H0,ρ,x,ρ',st,e,k⟩:=h;unfold Dm.sd at e;split at e
 case h_2=>cases e
 rename_i ds0 h0;obtain⟨a0,q0,n0,w0⟩:=st.ow i _ h0;refine⟨_,q0,?_⟩;obtain⟨xs0,y0,_⟩:=w0;refine⟨.inl ⟨rfl,xs0,.inl (.inl y0)⟩,?_⟩;split at e
 case h_2=>cases e
 rename_i j ρ1 e1;split at e
 case h_2=>cases e
 rename_i ds h2;split at e
 case isFalse=>cases e
 rename_i hb;split at e
 case h_2=>cases e
 rename_i d hd;cases e;refine⟨H0,ρ,[.val (.int j)],ρ1,st,by unfold Dm.eAs;rw[e1];rfl,fun vs H0' H' t r=>?_⟩;cases r with
 |cons r rr=>
  cases rr;cases Rep.isInt r;obtain⟨a,q,n,w⟩:=t.st.ow i _ h2;rw[q0]at q;cases q;obtain⟨xs,y,rs⟩:=w;obtain⟨v,hv,rv⟩:=rs.get hd;have En:j.toNat<xs.length:=(Tj.mp hv).1;have hB:Dm.BIG=1000000000:=rfl;refine⟨a0,xs,j,j.toNat,v,rfl,rfl,y,by lia,by lia,?_,hv,?_⟩
  ·unfold seqIndex?;simp only[show ¬j<0 by lia,if_false];rw[if_pos (by rw[decide_eq_true (show 0<=j by lia),decide_eq_true (show j<(xs.length:Int) by lia)];rfl)]
  have ow:ao σ ρ1 a0:=⟨i,_,h2,q0⟩
  have hi:i<ρ1.length:=(Tj.mp h2).1;refine k v H0' _ (t.trans ⟨t.st.write h2 q0 ⟨_,ak,xq _ rs⟩,Stp.write ow,fun b z=>cz h2 z,fun j' z=>trivial⟩) rv
end
section
variable{X:Cx}{e:Expr}{f:FE}{pos:Pos}
theorem PN(i:Nat){x:Str}{px ap cp:Pos}(he:DE X e f)(hi:X.N[i]?=some x:=by rfl)(hv:Vis X.env.scope x:=by trivial)(hd:(x == ("__debug__" : Str))=false:=by decide)
  (MZ:(x == ("__classdict__" : Str))=false:=by decide) (R1:attributeBase (.Name x px) "extend" X.env (eval (.Name x px) X.env)=eval (.Name x px) X.env:=by rfl)
  (hfew:((backTo cp (starEach [e] X.env)).all (fun x=>!x.1)&&(backToKw cp (keywordEach [] X.env)).all (fun x=>x.1.isSome)
   && decide ([e].length+([]:List Keyword).length+(if ([]:List Keyword).isEmpty then 0 else 1)<30))=true:=by rfl)
  (QK:(ap.endLine == cp.line)=true:=by rfl) (hs:starEach [e] X.env=(false,eval e X.env)::starEach [] X.env:=by rfl) (JC:(backTo cp (starEach [] X.env)).any (·.1)=false:=by rfl)
  (hsw:swapsWith (.Call (.Attribute (.Name x px) "extend" ap) [e] [] cp) none pos.line X.env=pure false:=by rfl) :
  DS X (.Expr (.Call (.Attribute (.Name x px) "extend" ap) [e] [] cp) pos) (Dm.GS i f):=
 PS.weak (jA (yw Vu PySem.F.slot_list_extend PySem.F.type_list_extend GW (fN hi hv hd MZ) (aa he af hs) R1 hfew QK hs JC) hsw) fun _ _ _=>PM
theorem GY(i:Nat){x:Str}{px ap cp:Pos}(he:DE X e f)(hi:X.N[i]?=some x:=by rfl)(hv:Vis X.env.scope x:=by trivial)(hd:(x == ("__debug__" : Str))=false:=by decide)
  (MZ:(x == ("__classdict__" : Str))=false:=by decide) (R1:attributeBase (.Name x px) "pop" X.env (eval (.Name x px) X.env)=eval (.Name x px) X.env:=by rfl)
  (hfew:((backTo cp (starEach [e] X.env)).all (fun x=>!x.1)&&(backToKw cp (keywordEach [] X.env)).all (fun x=>x.1.isSome)
   && decide ([e].length+([]:List Keyword).length+(if ([]:List Keyword).isEmpty then 0 else 1)<30))=true:=by rfl)
  (QK:(ap.endLine == cp.line)=true:=by rfl) (hs:starEach [e] X.env=(false,eval e X.env)::starEach [] X.env:=by rfl) (JC:(backTo cp (starEach [] X.env)).any (·.1)=false:=by rfl) :
  DE X (.Call (.Attribute (.Name x px) "pop" ap) [e] [] cp) (Dm.sd i f):=
 PE.weak (yw Vu PySem.F.slot_list_pop PySem.F.type_list_pop BL (fN hi hv hd MZ) (aa he af hs) R1 hfew QK hs JC) fun _ _ _=>GX
end
end Br
namespace L2
open PySem PySem.Spec PyProof.Rows
def CXE(P:Program)(w:World)(C:Addr):CXT:=fun outer H s E e s'=>
 ∃ea a0 B H',e=.ref ea/\s'.os=s.os/\AllBare s'.gens/\Un (frs outer) [] H H' s.heap s'.heap/\HOk P w H' s'.heap/\Heap.FlyingW B outer ea (.ref C) a0 s'.heap /\
  (∀b o,s'.heap.get? b=some o->(s.heap.get? b).isSome=true\/(H' b).isSome=true->b∉frs outer->B.get? b=some o)/\E (.ref C) (some ea) H'
theorem aR.there{P:Program}{w:World}{H:Hp}{h:Heap}{a:Addr}{o:HO}(x:aR P w H h a o):∃u,h.get? a=some u:=by
 cases o with
 |lst xs=>obtain⟨_,_,_,_,e⟩:=x;exact⟨_,e⟩
 |tup xs=>obtain⟨_,_,_,ob,e,_⟩:=x;exact⟨_,e⟩
 |dK kvs=>obtain⟨_,_,_,_,o,_,_,e,_⟩:=x;exact⟨_,e⟩
 |dT kvs=>obtain⟨_,_,_,_,o,_,_,e,_⟩:=x;exact⟨_,e⟩
 |set S n=>obtain⟨o,_,_,_,e,_⟩:=x;exact⟨_,e⟩
 |ins C dx fs=>obtain⟨_,_,_,e,_⟩:=x;exact⟨_,e⟩
 |own y=>obtain⟨_,e⟩:=x;exact⟨_,e⟩
 |xd fs=>obtain⟨_,⟨_,_,_,e,_⟩,_⟩:=x;exact⟨_,e⟩
 |rng lo hi=>obtain⟨_,_,_,e⟩:=x;exact⟨_,e⟩
 |frz ob u=>obtain⟨e,_⟩:=x;exact⟨_,e⟩
 |tbl _ _ _=>obtain⟨_,e,_⟩:=x;exact⟨_,e⟩
 |met f y=>exact⟨_,x⟩
 |ext φ=>obtain⟨_,⟨_,e⟩,_⟩:=x;exact⟨_,e⟩
section
variable{X:Cx}{uV:List (Addr×Obj)}{σ:St}{H:Hp}{s:Shared}{x:Str}{C:Addr}{bmB:List Value}{B newId initId:String}{np cpos pos:Pos}
theorem AL{t:St->Hp->Prop}(hc:X.calm=true)(hg:Gl X x)(O:OwnCls x C bmB newId X.mg X.base)(FB:ExcBaseFacts B newId initId bmB)
  (hE:∀uV σ H s h' e,Inv X uV σ H s->t σ H->Heap.MadeExcOf s.heap h' e (.ref C) []->X.xe (.ref e) { s with heap:=h' }) (MO:(x == ("__debug__" : Str))=false:=by decide) :
  PS X (.Raise (some (.Call (.Name x np) [] [] cpos)) none pos) (fun _ σ H=>t σ H):=by
 intro uV s σ H D I h;obtain⟨tl,N,nm,q,bs,hdct,sn,sub,ab,col,dd,k0,k1,k2,k3,k5,mN,hC,hN,hni,T⟩:=O.obj;refine wpAny_Raise_call_subT (C:=C) (nm:=nm) (q:=q) (N:=N) (bs:=bs) (bm:=tl) (hdct:=hdct) (sn:=sn) (sub:=sub) (ab:=ab) (col:=col) (dd:=dd) (k0:=k0) (k1:=k1) (k2:=k2) (k3:=k3) (k5:=k5)
  FB (mN:=mN) (T.hasType FB.hasBase) (I.ok.hd hc) rfl hni (gv I hg O.bound ⟨rfl,?_⟩ MO)
 exact evalArgs_empty ⟨rfl,T8 _,I.bk _ _ hC,hN.keeps I.bk,T.keeps I.bk,fun h' e hm=>hE uV σ H s h' e I h hm⟩
theorem Inv.out(I:Inv X uV σ H s){h'' Bh:Heap}(hx:X.ex=[])(hB:∀b o,s.heap.get? b=some o->b∉frs X.stack->(X.s₀.heap.get? b).isSome=true\/(H b).isSome=true->Bh.get? b=some o)(k1:Bh.StaysIn h'')
  (sl:s.heap.UpToSlots h''):Un X.fs [] X.H₀ H X.s₀.heap h''/\HOk X.prog X.w H h'' /\
   (∀b o,h''.get? b=some o->(X.s₀.heap.get? b).isSome=true\/(H b).isSome=true->b∉X.fs->Bh.get? b=some o):=by
 have nx:∀b:Addr,b∉X.ex:=fun b z=>by rw[hx]at z;cases z
 have neL:∀b o,X.s₀.heap.get? b=some o->b≠X.env.locals:=fun b o e=>Tu (Tw (Tn e) I.ok.above);have nst:∀b o,X.s₀.heap.get? b=some o->b∉X.fs->b∉frs X.stack:=fun b o e hb z=>(Tp.mp (I.kr b z)).elim (neL b o e) hb;have frame:∀b,b∈X.fs->∀o,s.heap.get? b=some o->∃sl,h''.get? b=some { o with slots:=sl }:=fun b hb o e=>by obtain⟨_,o',ho',hd⟩:=I.ko.mem hb;rw[e]at ho';cases ho';exact sl b o e hd
 have stay:∀b o,b∉frs X.stack->(X.s₀.heap.get? b).isSome=true\/(H b).isSome=true->s.heap.get? b=some o->h''.get? b=some o:=fun b o hb hh e=>k1 b o (hB b o e hb hh);have tr:∀b u,H b=some u->b∉frs X.stack:=fun b u e z=>by rw[I.rq b z]at e;cases e
 refine⟨⟨fun b o e n hb _=>?_,fun b o e n hb _=>?_,fun b o e n _=>I.base.free b o e n (nx b),fun b o e _=>?_,I.base.tups,I.base.lQ,I.base.jy⟩,fun b u e=>?_,fun b o e hh hb=>?_⟩
 ·exact stay b o (nst b o e hb) (.inl (by rw[e];rfl)) (I.base.keep b o e n hb (nx b))
 ·obtain⟨s1,e1⟩:=I.base.slot b o e n hb (nx b);obtain⟨s2,e2⟩:=frame b hb _ e1;exact⟨s2,e2⟩
 ·obtain⟨o1,e1⟩:=I.base.there b o e (nx b);by_cases hb:b∈X.fs
  ·obtain⟨s2,e2⟩:=frame b hb _ e1;exact⟨_,e2⟩
  ·exact⟨o1,stay b o1 (nst b o e hb) (.inl (by rw[e];rfl)) e1⟩
 ·refine(I.hok b u e).stay (fun c v hc q=>?_) (fun _ q=>q) (fun _ _ _ q=>q) fun _ _ q=>q;rcases hc with rfl | hc
  ·exact stay c v (tr c u e) (.inr (by rw[e];rfl)) q
  ·exact stay c v (tr c _ hc) (.inr (by rw[hc];rfl)) q
 ·have:∃o1,s.heap.get? b=some o1:=by
   rcases hh with hh | hh
   ·obtain⟨o0,e0⟩:=Uj.mp hh;exact I.base.there b o0 e0 (nx b)
   ·obtain⟨u,e0⟩:=Uj.mp hh;exact(I.hok b u e0).there
  obtain⟨o1,e1⟩:=this;have hs:b∉frs X.stack:=by
   rcases hh with hh | hh
   ·obtain⟨o0,e0⟩:=Uj.mp hh;exact nst b o0 e0 hb
   ·obtain⟨u,e0⟩:=Uj.mp hh;exact tr b u e0
  have e2:=stay b o1 hs hh e1;rw[e]at e2;cases e2;exact hB b o e1 hs hh
end
section
variable{P:Program}{w:World}{K:eg}{mg:Str->Option Value}{base:Heap}{N:List Str}{qual:Str}{scope:Scope}{f:Addr}{cd:Value}{A:Around}{outer:List Env}{s₀:Shared}{H₀:Hp}{E:XK}{C:Addr}
 {uV:List (Addr×Obj)} {σ:St} {H:Hp} {s:Shared}
theorem GZ{h h' h'':Heap}(k:∀b o,h.get? b=some o->h'.get? b=some o)(x:h'.UpToSlots h''):h.UpToSlots h'':=(Heap.UpToSlots.of_keeps k).trans x
theorem G0(I:Inv (dc (CXE P w C) P w K mg base N qual scope f cd A outer s₀ H₀ E) uV σ H s){h':Heap}{e:Addr}(hx:Heap.MadeExcOf s.heap h' e (.ref C) [])(hE:E (.ref C) (some e) H) :
  (dc (CXE P w C) P w K mg base N qual scope f cd A outer s₀ H₀ E).xe (.ref e) { s with heap:=h' }:=by
 have hin:∀env∈(dc (CXE P w C) P w K mg base N qual scope f cd A outer s₀ H₀ E).stack,∀b,env.frame=some b->b∈frs (dc (CXE P w C) P w K mg base N qual scope f cd A outer s₀ H₀ E).stack:=fun env he b hb=>Wu.mpr ⟨env,he,hb⟩;show wpAny (model P w) _ (leaving _ (.ref e)) _ _ _;refine wpAny_leaves_madeW (base:=WS s.heap (frs (dc (CXE P w C) P w K mg base N qual scope f cd A outer s₀ H₀ E).stack)) (h:=s.heap) (L:=s₀.heap.objs.size) I.ok.frames rfl (fun b o q=>PySem.W.of_hideAll _ q) (PySem.W.funFrames_hide I.stack hin) hx fun h'' t fl tup bt sl=>?_;obtain⟨u1,u2,u3⟩:=I.out (h'':=h'') (Bh:=WS s.heap (frs (dc (CXE P w C) P w K mg base N qual scope f cd A outer s₀ H₀ E).stack)) rfl (fun b o q hb _=>PySem.W.hideAll_get _ q hb) fl.1 (GZ hx.keeps sl);exact⟨e,.ref t,_,H,rfl,I.os,I.bare,u1,u2,fl,u3,hE⟩
theorem PR:Passes (CXE P w C) (dc (CXE P w C) P w K mg base N qual scope f cd A outer s₀ H₀ E) E:=by
 intro uV σ H s e s' I hq;obtain⟨ea,a0,Bh,H',rfl,os,bare,un,hok,fl,hB,hE⟩:=hq;obtain⟨hh,g,d,t,os'⟩:=s';obtain rfl:os'=s.os:=os;have J:=I.call (h':=hh) (g':=g) (d':=d) (t':=t) (ch:=[]) un hok bare (fun b z=>absurd z (by simp));show wpAny (model P w) _ (leaving _ (.ref ea)) _ _ _;refine wpAny_leaves_onW (base:=Bh) (L:=s₀.heap.objs.size) I.ok.frames rfl fl fun h'' PV sl=>?_;have neL:∀b o,s₀.heap.get? b=some o->∃o1,s.heap.get? b=some o1:=fun b o e=>I.base.there b o e (fun z=>nomatch z);obtain ⟨u1,u2,u3⟩:=J.out (h'':=h'') (Bh:=Bh) rfl (fun b o q hb hh=>hB b o q (hh.imp (fun z=>by obtain⟨o0,e0⟩:=Uj.mp z;obtain⟨o1,e1⟩:=neL b o0 e0;rw[e1];rfl) id) hb) PV.1 sl
 exact⟨ea,a0,Bh,H',rfl,J.os,bare,u1,u2,PV,u3,hE⟩
end
section
variable{X:Cx}{st:Stmt}{Du:List Stmt}{t:TS}
noncomputable def DF:Ends:={ nx:=fun _ _=>False,rt:=fun _ _=>False,bk:=fun _ _=>False,ct:=fun _ _=>False }
theorem CQ(h1:PS X st t):PSs X (st::Du) (fun _ σ H=>t DF σ H):=by
 intro uV s σ H D I h;refine wpAny_execs_cons (thn (h1 uV s σ H DF I h) fun f s1 q=>?_);cases f with
 |next=>obtain⟨_,_,_,q⟩:=q;exact TF q
 |ret v=>obtain⟨_,_,_,_,_,q⟩:=q;exact TF q
 |brk=>obtain⟨_,_,_,q⟩:=q;exact TF q
 |cont=>obtain⟨_,_,_,q⟩:=q;exact TF q
end
end L2
namespace Br
open PySem PySem.Spec PyProof.Rows L2
def uI(C:Addr)(X:Cx)(E:L2.St->XK):Prop:=∀(uV:List (Addr×Obj)) (σ:L2.St) (H:Hp) (s:Shared) (e:Value) (s':Shared),Inv X uV σ H s->CXE X.prog X.w C X.stack H s (E σ) e s'->X.xe e s'
def tX(C:Addr)(E:L2.St->XK)(R:Dm.Env->Option Dm.Env)(σ:L2.St)(H:Hp):Prop:=∃H0 ρ ρ',ay H0 H σ ρ/\R ρ=some ρ'/\∀a H0' H',ESt σ ρ H0 H ρ' H0' H'->E σ (.ref C) (some a) H'
def spX(C:Addr)(bad:List Dat->Bool):Sp:=fun vs H _ E=>∃H0 ds,av H0 H/\aD H0 vs ds/\bad ds=true/\∀a H0' H',aJ H0 H H0' H'->E (.ref C) (some a) H'
noncomputable abbrev XE(X:Cx)(C:Addr)(E:L2.St->XK)(e:Expr)(R:Dm.Env->Option Dm.Env):Prop:=PE X e (fun σ H _=>tX C E R σ H)
noncomputable abbrev XS(X:Cx)(C:Addr)(E:L2.St->XK)(st:Stmt)(R:Dm.Env->Option Dm.Env):Prop:=PS X st (fun _ σ H=>tX C E R σ H)
section
variable{X:Cx}{C:Addr}{E:L2.St->XK}{k:Nat}{F:Addr}{fd:FuncData}{ps:List Str}{x:Str}{p pos:Pos}{e:Expr}{es:List Expr}{fs:List FE}{bad:List Dat->Bool}{R S:Dm.Env->Option Dm.Env}
theorem G1{uV:List (Addr×Obj)}{σ:L2.St}{H:Hp}{s:Shared}{Q:VK}{us:List Value}{vs:List V}(G:aK X.prog X.w X.K X.mg X.base (CXE X.prog X.w C) k F fd ps (spX C bad))(hr:aT k X.A)(hb:Binds X.K fd ps [])(hx:uI C X E)
  (I:Inv X uV σ H s) (r:Vals vs us) (h:spX C bad vs H Q (E σ)):wpAny (model X.prog X.w) X.A (call (.ref F) us) (EP X uV σ Q) X.xe s:=by
 have hl:(us++[]).length=ps.length:=by rw[Uc,<- r.length];exact G.len _ _ _ _ h
 have hb':=hb s us I.kIn hl;rw[Uc]at hb';refine wpAny_call (codeAny_mono (G.run X.A X.stack s H ⟨us,[]⟩ us vs Q (E σ) hr I.F0 hb' r h) fun r s' hq=>?_);cases r with
 |error e=>exact hx uV σ H s e s' I hq
 |ok fl=>
  cases fl with
  |ret u=>exact I.after hq
  |next=>exact TF hq
  |brk=>exact TF hq
  |cont=>exact TF hq
theorem yY{σ:L2.St}{H:Hp}(h:tX C E (Dm.fJ bad fs) σ H)(Q:VK):tDA fs σ H fun vs H1=>spX C bad vs H1 Q (E σ):=by
 obtain⟨H0,ρ,ρ',st,hR,k⟩:=h;unfold Dm.fJ at hR;split at hR
 ·cases hR
 rename_i xs ρ1 e1;split at hR
 ·cases hR
 rename_i ds p1;split at hR
 case isFalse=>cases hR
 rename_i hbad;cases hR;refine⟨H0,ρ,xs,ρ',st,e1,fun vs H1 Hb t1 r1=>?_⟩;obtain⟨ρ2,e2⟩:=h_ p1;obtain⟨H2,t2,b2,r2⟩:=takes t1 (av.refl _) r1 e2;exact⟨H2,ds,t2.st.same,r2,hbad,fun a H0' H' g=>k a H1 H' (t1.trans (.grow t1.st ⟨av.refl _,g.s1,fun a o q=>.inr q,t1.st.same.trans g.s1⟩))⟩
theorem x_call(G:aK X.prog X.w X.K X.mg X.base (CXE X.prog X.w C) k F fd ps (spX C bad))(hr:aT k X.A)(hg:Gl X x)(hm:X.mg x=some (.ref F))(hk:Ul X.K (.ref F)=true)(hb:Binds X.K fd ps [])(hx:uI C X E)
  (ha:DA X (e::es) fs) (MO:(x == ("__debug__" : Str))=false:=by decide) (he:starEach (e::es) X.env=(false,eval e X.env)::starEach es X.env:=by rfl) (Dy:(backTo pos (starEach es X.env)).any (·.1)=false:=by rfl) :
  XE X C E (.Call (.Name x p) (e::es) [] pos) (Dm.fJ bad fs):=by
 intro uV s σ H Q I h;refine wpAny_Call_Name_kw (gv I hg hm ?_ MO);refine Wx (h₀:=X.base) I.ok.mod.kin hk (thn (ha pos uV s σ H _ I (yY h Q)) fun us s1 ⟨vs,H1,I1,r,q⟩=>⟨I1.kIn,?_⟩) he Dy;exact G1 G hr hb hx I1 r q
theorem nt(h:XE X C E e R)(hs:swapsWith e none pos.line X.env=pure false:=by rfl):XS X C E (.Expr e pos) R:=PS.weak (jA h hs) fun _ _ _ q=>q
theorem x_a(i:Nat){x:Str}{pos':Pos}(hN:X.N.Nodup)(he:XE X C E e R)(hi:X.N[i]?=some x:=by rfl)(hx:Loc X.env.scope x:=by trivial)(hs:swapsWith e (some (.Name x pos')) pos.line X.env=pure false:=by rfl)
  (hf:X.fn x=true\/X.env.scope.names.lookup x=some .local:=by trivial):XS X C E (.Assign [.Name x pos'] e pos) R:=PS.weak (Bu hN hi hx he hs hf) fun _ _ _ q=>q
end
section
variable{P:Program}{w:World}{K:eg}{mg:Str->Option Value}{base:Heap}{N:List Str}{qual:Str}{scope:Scope}{f:Addr}{cd:Value}{A:Around}{outer:List Env}{s₀:Shared}{H₀:Hp}{E:XK}{C:Addr}
theorem CS:uI C (dc (CXE P w C) P w K mg base N qual scope f cd A outer s₀ H₀ E) (fun _=>E):=fun uV σ H s e s' I q=>PR uV σ H s e s' I q
theorem x_raise{x:Str}{bmB:List Value}{B newId initId:String}{np cpos pos:Pos}(O:OwnCls x C bmB newId mg base)(FB:ExcBaseFacts B newId initId bmB)(hg:Gl (dc (CXE P w C) P w K mg base N qual scope f cd A outer s₀ H₀ E) x)(MO:(x == ("__debug__" : Str))=false:=by decide) :
  XS (dc (CXE P w C) P w K mg base N qual scope f cd A outer s₀ H₀ E) C (fun _=>E) (.Raise (some (.Call (.Name x np) [] [] cpos)) none pos) Dm.PJ:=
 AL rfl hg O FB (fun uV σ H s h' e I ⟨H0,ρ,ρ',st,hR,k⟩ hm=>G0 I hm (k e _ _ (by cases hR;exact ESt.refl st))) MO
end
theorem sj{C:Addr}{n m:Nat}{R:Dm.Env->Option Dm.Env}{vs:List V}{H:Hp}{Q:VK}{E:XK}(h:spX C (Dm.fnX n m R) vs H Q E):vs.length=n:=by obtain⟨H0,ds,s,rs,e,k⟩:=h;unfold Dm.fnX at e;rw[TN,decide_eq_true_eq]at e;rw[rs.length];exact e.1
theorem CT{N:List Str}{n m:Nat}{vs:List V}{H0 H:Hp}{ds:List Dat}(hm:N.length=n+m)(hvn:vs.length=n)(s:av H0 H)(rs:aD H0 vs ds) :
  ay H0 H (start N vs) (ds.map Dm.Cell.sh++Dk m .un)/\∀a,¬ao (start N vs) (ds.map Dm.Cell.sh++Dk m .un) a:=by
 have hl:=rs.length;refine ⟨?_,fun a ⟨i,d,h1,_⟩=>by
  by_cases hi:i<ds.length
  ·rw[Tr (by simpa using hi),TM]at h1;cases q:ds[i]? with
   |none=>rw[q]at h1;cases h1
   |some y=>rw[q]at h1;cases h1
  ·rw[Tt (by simpa using hi),Ui]at h1;split at h1<;>cases h1⟩
 refine⟨s,?_,fun i d h=>?_,fun i d h=>?_,fun i j d e a h1 h2 _ _=>?_⟩
 ·unfold L2.start;simp only[Tz,Dp,Vi]
  lia
 ·have hi:i<ds.length:=by
   by_cases hi:i<ds.length
   ·exact hi
   ·rw[Tt (by simpa using hi),Ui]at h;split at h<;>cases h
  rw[Tr (by simpa using hi),TM]at h;cases q:ds[i]? with
  |none=>rw[q]at h;cases h
  |some y=>rw[q]at h;cases h;obtain⟨v,hv,r⟩:=rs.get q;refine⟨v,?_,r⟩;unfold L2.start;rw[Tr (by simpa [hl] using hi),TM,hv];rfl
 ·by_cases hi:i<ds.length
  ·rw[Tr (by simpa using hi),TM]at h;cases q:ds[i]? with
   |none=>rw[q]at h;cases h
   |some y=>rw[q]at h;cases h
  ·rw[Tt (by simpa using hi),Ui]at h;split at h<;>cases h
 ·by_cases hi:i<ds.length
  ·rw[Tr (by simpa using hi),TM]at h1;cases q:ds[i]? with
   |none=>rw[q]at h1;cases h1
   |some y=>rw[q]at h1;cases h1
  ·rw[Tt (by simpa using hi),Ui]at h1;split at h1<;>cases h1
end Br
namespace PySem.W
open PySem PySem.Spec PySem.Calls PyProof.Rows
structure ir(K:Frag)(C:Addr):Prop where
 ga:findIn K (.ref C) "__getattribute__" = some (some (.builtin "BaseException.__getattribute__"))
 gn:findIn K (.ref C) "__getattr__" = some none
 cl:findIn K (.ref C) "__class__" = some (some (.builtin "object.__class__"))
 mB:mroIn K C (.type "BaseException")=some true
 mO:mroIn K C (.type "object")=some true
def pZ(x C:Addr)(h:Heap):Prop:=∃ox,h.get? x=some ox/\ox.cls=.ref C
theorem gD{x C:Addr}{M:Model}{h:Heap}(p:pZ x C h):Looks M h (typeOf (.ref x)) (.ref C):=by obtain⟨o,h1,h2⟩:=p;exact h2▸(Looks.ld h1).andThen .now
section
variable{prog:Program}{w:World}{A:Around}{K:Frag}{x C:Addr}{s:Shared}{R:Result->Shared->Prop}
theorem xr{tp:Value}(X:K.In s.heap)(I:pZ x C s.heap)(hm:mroIn K C (.type "object")=some true)
  (h:R (.ok (.ret (.ref C))) s):codeAny (model prog w) A (.call (.builtin "getset_descriptor.__get__") ⟨[.builtin "object.__class__",.ref x,tp],[]⟩) R s:=by
 obtain⟨hh,g,dr,t,os⟩:=s;have L0:=gD (M:=model prog w) I;have L1:=looks_mroIn (M:=model prog w) X hm;refine codeAny_call_builtin KF.slot_gs.plain KF.entry_gs (KF.slot_gs.check _ _ _ _ _ _ _ _ KF.type_class (KF.args_gs _ _ _) ?_);unfold Builtin.«getset_descriptor.__get__» Builtin.Getset_descriptor.descrGet;rw[dga_obj];refine wpAny_bind (wpAny_pure ?_);unfold Builtin.Getset_descriptor.descrGetter Builtin.Getset_descriptor.descrCheckInstance Builtin.Getset_descriptor.descrNameAndClass isInstance;simp only[KF.owner_class]
 repeat lk
 refine⟨Code.quiet_builtin _ (by decide +kernel),codeAny_builtin KF.entry_class ?_⟩;unfold Builtin.«object.__class__» shownTypeOf
 repeat lk
 exact h
end
section
variable{prog:Program}{w:World}{A:Around}{E:Value->Shared->Prop}{K:Frag}{x C:Addr}{ox:Obj}{h:Heap}{g:Array GenState}{d:Drawn}{t:Nat}{os:OsState}
theorem CU{M:Model}{nameV:Value}{Q:Unit->Shared->Prop}(Z:ir K C)(X:K.In h)(I:pZ x C h)(hq:Q () ⟨h,g,d,t,os⟩):wpAny M A (checkBuiltinCall "BaseException.__getattribute__" ⟨[.ref x,nameV],[]⟩) Q E ⟨h,g,d,t,os⟩:=by
 have hk:builtinKind "BaseException.__getattribute__" = some .slot:=by decide +kernel
 have hsplit:splitId "BaseException.__getattribute__" = some ("BaseException","__getattribute__"):=by decide +kernel
 have L0:=gD (M:=M) I;have L1:=looks_mroIn (M:=M) X Z.mB;have LI:Looks M h (isInstance (.ref x) (.type "BaseException")) true:=L0.andThen L1;have ha:=PySem.F.args_bexc_ga (.ref x) nameV;simp only[checkBuiltinCall,hk,hsplit];refine wpAny_bind (LI.at ?_)
 repeat (first | assumption | wp_step)
theorem CV{tk:Tok}{Q:Fin->Shared->Prop}(Z:ir K C)(X:K.In h)(I:pZ x C h)(hq:Q (.done (.ret (.ref C))) ⟨h,g,d,t,os⟩) :
  wpAny (model prog w) A (Builtin.«object.__getattribute__» ⟨[.ref x,.str "__class__" tk],[]⟩) Q E ⟨h,g,d,t,os⟩:=by
 have hT5:(⟨h,g,d,t,os⟩:Shared).TypeIs (.builtin "object.__class__") "getset_descriptor" := F.typeOf_object_class;have f5:=F.typeOf_object_class;have f6:=F.slot_gs_get.lookup;have f7:=F.slot_gs_set.lookup;have L0:=gD (M:=model prog w) I;have L1:=looks_findIn (M:=model prog w) X Z.cl
 repeat (any_goals (first | assumption | with_reducible refine L0.at ?_ | with_reducible refine L1.at ?_ | wp_step))
 refine xr X I Z.mO ?_
 repeat (any_goals (first | assumption | wp_step))
theorem G3{tk:Tok}{R:Result->Shared->Prop}(Z:ir K C)(X:K.In h)(I:pZ x C h)(hq:R (.ok (.ret (.ref C))) ⟨h,g,d,t,os⟩) :
  codeAny (model prog w) A (.call (.builtin "BaseException.__getattribute__") ⟨[.ref x,.str "__class__" tk],[]⟩) R ⟨h,g,d,t,os⟩:=
 codeAny_call_builtin PySem.F.excAttr_ValueError.ga.plain PySem.F.entry_bexc_ga (CU Z X I (CV Z X I hq))
theorem PX{tk:Tok}{Q:Value->Shared->Prop}(Z:ir K C)(X:K.In h)(I:pZ x C h)(hq:Q (.ref C) ⟨h,g,d,t,os⟩) :
  wpAny (model prog w) A (getAttrBy (.ref x) (.str "__class__" tk) false) Q E ⟨h,g,d,t,os⟩:=by
 have f3:=PySem.F.excAttr_ValueError.ga.bind (.ref x);have hx2:(WG "BaseException.__getattribute__" == WG "object.__getattribute__")=false:=by decide +kernel
 have hx1:(onTheHeap (TZ C)&&WG "BaseException.__getattribute__" == WG "object.__getattribute__")=false:=by rw[hx2];rfl
 have L0:=gD (M:=model prog w) I;have L1:=looks_findIn (M:=model prog w) X Z.ga;have L2:=looks_findIn (M:=model prog w) X Z.gn
 repeat (any_goals (first | assumption | with_reducible refine L0.at ?_ | with_reducible refine L1.at ?_ | with_reducible refine L2.at ?_ | wp_step))
 refine G3 Z X I ?_
 repeat (any_goals (first | assumption | wp_step))
theorem G4{s:Shared}{Q:Option Value->Shared->Prop}(Z:ir K C)(X:K.In s.heap)(I:pZ x C s.heap)(hq:Q (some (.ref C)) { s with toks:=s.toks+1 }):wpAny (model prog w) A (getAttr? (.ref x) "__class__") Q E s:=by
 obtain⟨h,g,d,t,os⟩:=s;unfold getAttr? getAttrBy?
 repeat (any_goals (first | assumption | with_reducible apply PX Z X I | wp_step))
theorem uJ(Z:ir K C)(hc:(clsIn K C).isSome=true):KitX K (.ref x) (.ref C) (pZ x C) where
 ty:=fun _ _ _ I=>gD I
 it:=fun _ _ X _=>by
  unfold clsIn at hc;split at hc
  ·rename_i c' d' cd' sl' ho;intro A' Q' E' s' k q;unfold isType loadHead;exact wpAny_bind (wpAny_loadPart (k _ _ (X _ _ ho)) (wpAny_pure q))
  ·cases hc
 ne:=fun h tp dd its n sl X htp=>by
  refine Bool.eq_false_iff.mpr fun q=>?_;have e:C=tp:=TZ.inj (beq_iff_eq.mp q);subst e;unfold clsIn at hc;split at hc
  ·rename_i c' d' cd' sl' ho;have z:=(X _ _ ho).symm.trans htp;cases z
  ·cases hc
 ca:=fun X I k=>G4 Z X I k
end
end PySem.W
namespace PySem
theorem lE{α:Type}(p:α->Bool):∀(l:List α) (i:Nat) (x:α),l[i]?=some x->p x=false->(l.eraseIdx i).find? p=l.find? p
 |[],i,x,h,_=>by simp at h
 |y::l,0,x,h,hp=>by simp only[List.getElem?_cons_zero,Option.some.injEq]at h;subst h;rw[List.eraseIdx_cons_zero,UX,hp]
 |y::l,i+1,x,h,hp=>by rw[List.eraseIdx_cons_succ,UX,UX,lE p l i x (by simpa using h) hp]
theorem p5{es:Array DictEntry}{i:Nat}{name y:Str}(hi:es.findIdx? (·.key.isStr name)=some i)(hy:y≠name):nsFind (es.eraseIdxIfInBounds i) y=nsFind es y:=by
 obtain⟨En,hp,_⟩:=Array.findIdx?_eq_some_iff_getElem.mp hi;have hq:(es[i]).key.isStr y=false:=by
  cases hk:(es[i]).key with
  |str z t=>rw[hk]at hp;simp only[Xf,beq_iff_eq]at hp;simp only[Xf,beq_eq_false_iff_ne];intro e;exact hy (e.symm.trans hp)
  |_=>rw[hk]at hp;simp[Xf]at hp
 have h2:(es.eraseIdxIfInBounds i).toList=es.toList.eraseIdx i:=by unfold Array.eraseIdxIfInBounds;rw[dif_pos En,Array.toList_eraseIdx]
 unfold nsFind findBy;rw[<- Wv,<- Wv,h2,lE _ _ i es[i] (by rw[Um,Array.getElem?_eq_getElem En]) hq]
section
variable{M:Model}{A:Around}{E:Value->Shared->Prop}{s:Shared}{env:Env}
theorem sq{a:Addr}{m}{name:Str}{Q:Bool->Shared->Prop}(hn:s.heap.Ns a m)
  (hQ:∀h' m',h'.Ns a m'->(∀y,y≠name->m' y=m y)->VN a s.heap h'->Q (m name).isSome { s with heap:=h' }):wpAny M A (nsDel a name) Q E s:=by
 obtain⟨o,es,ep,ho,hd,hk,hm⟩:=id hn;have hany:es.any (·.refKey)=false:=by rw[Array.any_eq_false'];intro e he;obtain⟨n,t,h⟩:=hk e he;simp[DictEntry.refKey,h]
 have hsome:(m name).isSome=es.any (·.key.isStr name):=by
  rw[<- hm name];simp only[nsFind,findBy,VU];rw[WW];simp only[Array.find?_isSome,Array.any_eq_true];constructor
  ·rintro⟨x,hx,hp⟩;obtain⟨i,hi,rfl⟩:=Array.mem_iff_getElem.mp hx;exact⟨i,hi,hp⟩
  ·rintro⟨i,hi,hp⟩;exact⟨_,Array.getElem_mem hi,hp⟩
 have hhas:nsHas name o=pure (es.any (·.key.isStr name)):=by
  rw[nsHas_eq];unfold nsHasByArray;rw[hd];show (if (es.any fun x=>x.key.isStr name)=true then _ else _)=_
  generalize (es.any fun x=>x.key.isStr name)=b
  cases b<;>simp[hany]
 unfold nsDel;refine wpAny_bind (wpAny_loadPart ho ?_);rw[hhas];refine wpAny_bind (wpAny_pure ?_);rw[<- hsome];cases hmn:(m name).isSome
 ·have:=hQ s.heap m hn (fun _ _=>rfl) (.refl ..);rw[hmn]at this;exact wpAny_pure this
 ·refine wpAny_bind (wpAny_updatePart ho (wpAny_pure ?_));have key:∃m',(s.heap.update a (Obj.dropName name)).Ns a m'/\∀y,y≠name->m' y=m y:=by
   obtain⟨cl,d,dt,sl⟩:=o;subst hd;cases hi:es.findIdx? (·.key.isStr name) with
   |some i=>exact⟨nsFind (es.eraseIdxIfInBounds i),⟨_,_,ep+1,VB _ ho (by simp only[Wd,VJ,hi]<;>rfl),(by simp only[Wd,VJ,hi]<;>rfl),hk.erase i,fun _=>rfl⟩,fun y hy=>by rw[p5 hi hy,hm]⟩
   |none=>exact⟨nsFind es,⟨_,_,ep,VB _ ho (by simp only[Wd,VJ,hi]<;>rfl),(by simp only[Wd,VJ,hi]<;>rfl),hk,fun _=>rfl⟩,fun y _=>hm y⟩
  obtain⟨m',hm',hy⟩:=key;have:=hQ _ m' hm' hy (VN.update ..);rw[hmn]at this;exact this
theorem lV{n:Str}{pos:Pos}{m:Str->Option Value}{Q:Unit->Shared->Prop}(hl:env.kindOf n=some .local)(hn:s.heap.Ns env.locals m)
  (hp:(env.scope.kind == .class||(env.scope.kind == .module&&env.locals != env.globals))=false)
  (h:∀h' m',h'.Ns env.locals m'->(∀y,y≠n->m' y=m y)->VN env.locals s.heap h'->Q () { s with heap:=h',toks:=s.toks+1 }) :
  wpAny M A (do bindName env n .none;unbindBehindTheSuite env n pos) Q E s:=by
 refine wpAny_bind (wpAny_bindName (wpAny_storeName_local hl hn (fun h₁ hn₁ hs₁=>?_) hp));unfold unbindBehindTheSuite;refine wpAny_onRaise ?_;unfold unbindName;refine wpAny_bind (wpAny_point (wpAny_bind ?_));unfold deleteName;simp only[hl,hp];rw[if_neg (by decide)];refine wpAny_bind (sq hn₁ fun h₂ m₂ hn₂ hy hs₂=>?_);simp only[if_true,Option.isSome_some,Bool.not_true,UN,if_false];exact wpAny_pure (wpAny_point (h h₂ m₂ hn₂ (fun y hny=>(hy y hny).trans (if_neg hny)) (hs₁.trans hs₂)))
end
end PySem
namespace PySem.W
open PySem PySem.Spec PySem.Calls PyProof.Rows
structure su(K:Frag)(C CP:Addr):Prop where
 ty:typeIn K (.ref CP)=some (.type "type")
 cl:(clsIn K CP).isSome=true
 mB:mroIn K CP (.type "BaseException")=some true
 mP:mroIn K C (.ref CP)=some true
theorem uK{M:Model}{A:Around}{E:Value->Shared->Prop}{K:Frag}{x C CP:Addr}{h:Heap}{g:Array GenState}{d:Drawn}{t:Nat}{os:OsState}{Q:Bool->Shared->Prop}
  (Z:su K C CP) (X:K.In h) (I:pZ x C h) (hq:Q true ⟨h,g,d,t,os⟩):wpAny M A (excMatches (.ref x) (.ref CP)) Q E ⟨h,g,d,t,os⟩:=by
 have L0:=gD (M:=M) I;have L1:=looks_typeIn (M:=M) X Z.ty;have L2:=looks_mroIn (M:=M) X Z.mB;have L3:=looks_mroIn (M:=M) X Z.mP;have L4:Looks M h (isType (.ref CP)) true:=by
  have hc:=Z.cl;unfold clsIn at hc;split at hc
  ·rename_i c' d' cd' sl' ho;intro A' Q' E' s' k q;unfold isType loadHead;exact wpAny_bind (wpAny_loadPart (k _ _ (X _ _ ho)) (wpAny_pure q))
  ·cases hc
 have LT:Looks M h (isSubtype (.type "type") (.type "tuple")) false:=Looks.of_pure tc_notTuple;unfold excMatches isInstance
 repeat lk
 exact hq
end PySem.W
namespace L2
open PySem PySem.Spec PyProof.Rows
section
variable{X:Cx}{uV:List (Addr×Obj)}{σ:L2.St}{H:Hp}{s:Shared}
theorem Inv.fly(I:Inv X uV σ H s){h'' B:Heap}{t':Nat}(hx:X.ex=[])(hB:∀b o,s.heap.get? b=some o->b∉frs X.stack->((X.s₀.heap.get? b).isSome=true\/(H b).isSome=true\/∃p∈X.pn++uV,p.1=b)->B.get? b=some o)
  (k1:B.StaysIn h'') (sl:s.heap.UpToSlots h''):Inv X uV σ H { s with heap:=h'',toks:=t' }:=by
 obtain⟨u1,u2,_⟩:=I.out (h'':=h'') (Bh:=B) hx (fun b o e hb hh=>hB b o e hb (hh.imp id .inl)) k1 sl;have cellK:∀c v,s.heap.IsCell c v->h''.IsCell c v:=fun c v ⟨o,ho,hd⟩=>by
  obtain⟨sl',e⟩:=sl c o ho fun vs q=>by rw[hd]at q;cases q
  exact⟨_,e,hd⟩
 refine⟨I.ok,I.os,I.bare,by rw[hx];exact u1,?_,fun x c e=>?_,I.free,I.cW,fun p hp=>?_,u2,I.len⟩
 ·obtain⟨m,hn,hl⟩:=I.loc;refine⟨m,sl.ns hn,fun i x v e1 e2 e3=>?_⟩;obtain⟨u,r,l⟩:=hl i x v e1 e2 e3;refine⟨u,r,?_⟩;rcases l with l | ⟨k,c,e,z⟩
  ·exact .inl l
  ·exact .inr ⟨k,c,e,cellK c _ z⟩
 ·obtain⟨v,z⟩:=I.cell x c e;exact⟨v,cellK c v z⟩
 ·obtain⟨e,n,ne,nf,d⟩:=I.pin p hp;exact⟨k1 _ _ (hB p.1 p.2 e (fun z=>(Tp.mp (I.kr _ z)).elim ne nf) (.inr (.inr ⟨p,hp,rfl⟩))),n,ne,nf,d⟩
theorem Inv.Jm(I:Inv X uV σ H s){ea:Addr}{o:HO}(n:H ea=none)(hok:aR X.prog X.w (upd H ea o) s.heap ea o)(n0:X.s₀.heap.get? ea=none)(nl:ea≠X.env.locals)(nc:∀x c,X.env.cells.lookup x=some c->c≠ea)
  (np:∀p∈X.pn++uV,p.1≠ea):Inv X uV σ (upd H ea o) s:=by
 have ne:∀b u,H b=some u->b≠ea:=fun b u e z=>by rw[z,n]at e;cases e
 have n1:∀b u,X.s₀.heap.get? b=some u->b≠ea:=fun b u e z=>by rw[z,n0]at e;cases e
 refine⟨I.ok,I.os,I.bare,⟨I.base.keep,I.base.slot,fun b u e q hx=>?_,I.base.there,fun b xs e=>?_,fun b u v e=>?_,fun b x1 x2 x3 e=>?_⟩,I.loc,I.cell,?_,fun x c e=>?_,fun p hp=>?_,fun b u e=>?_,I.len⟩
 ·rw[aj (n1 b u e)];exact I.base.free b u e q hx
 ·have:=I.base.tups b xs e;rw[aj (ne b _ this)];exact this
 ·have:=I.base.lQ b u v e;rw[aj (ne b _ this)];exact this
 ·have:=I.base.jy b _ _ _ e;rw[aj (ne b _ this)];exact this
 ·rw[aj (Ue nl)];exact I.free
 ·rw[aj (nc x c e)];exact I.cW x c e
 ·obtain⟨e,q,a,b,d⟩:=I.pin p hp;exact⟨e,by rw[aj (np p hp)];exact q,a,b,d⟩
 ·by_cases hb:b=ea
  ·subst hb;rw[ak]at e;cases e;exact hok
  ·rw[aj hb]at e;exact(I.hok b u e).stay (fun c v _ q=>q) (fun c q=>by rw[aj (ne c _ q)];exact q) (fun c _ _ q=>by rw[aj (ne c _ q)];exact q) fun c xs q=>by rw[aj (ne c _ q)];exact q
theorem name_goes{M:Model}{A:Around}{E:Value->Shared->Prop}{i:Nat}{n:Str}{pos:Pos}{Q:Unit->Shared->Prop}(I:Inv X uV σ H s)(hN:X.N.Nodup)(hi:X.N[i]?=some n)(hk:X.env.kindOf n=some .local)
  (h:∀s',Inv X uV (σ.set i none) H s'->Q () s'):wpAny M A (do bindName X.env n .none;unbindBehindTheSuite X.env n pos) Q E s:=by
 obtain⟨m,hn,hl⟩:=id I.loc;have hcls:(X.env.scope.kind == .class||(X.env.scope.kind == .module&&X.env.locals != X.env.globals))=false:=by rw[I.ok.kind];rfl
 have cne:=I.cne;refine lV hk hn hcls fun h' m' hn' hy hs=>?_;have low:∀b o,X.s₀.heap.get? b=some o->b≠X.env.locals:=fun b o e=>Tu (Tw (Tn e) I.ok.above);refine h _ ⟨I.ok,I.os,I.bare,⟨fun b o e n hb hx=>?_,fun b o e n hb hx=>?_,I.base.free,fun b o e hx=>?_,I.base.tups,I.base.lQ,I.base.jy⟩,⟨m',hn',fun j y v' e1 e2 e3=>?_⟩,fun y c e=>?_,I.free,I.cW,fun p hp=>?_,fun b u e=>?_,by simpa using I.len⟩
 ·exact(hs.2 b (low b o e)).trans (I.base.keep b o e n hb hx)
 ·obtain⟨sl,e1⟩:=I.base.slot b o e n hb hx;exact⟨sl,(hs.2 b (low b o e)).trans e1⟩
 ·obtain⟨o',e1⟩:=I.base.there b o e hx;exact⟨o',(hs.2 b (low b o e)).trans e1⟩
 ·have hj:j≠i:=fun z=>by
   subst z;by_cases En:j<σ.length
   ·rw[TR En]at e2;cases e2
   ·rw[Uk (by simpa using En)]at e2;cases e2
  rw[gc (Ue hj)]at e2;obtain⟨u',r',q⟩:=hl j y v' e1 e2 e3;refine⟨u',r',?_⟩;rcases q with⟨k,e⟩ | ⟨k,c,e,z⟩
  ·exact .inl ⟨k,by rw[hy y fun e=>hj (mE hN e1 (e▸hi))];exact e⟩
  ·obtain⟨o,ho,hd⟩:=z;exact .inr ⟨k,c,e,o,(hs.2 c (cne y c e)).trans ho,hd⟩
 ·obtain⟨v,o,ho,hd⟩:=I.cell y c e;exact⟨v,o,(hs.2 c (cne y c e)).trans ho,hd⟩
 ·obtain⟨e,q,a,b,d⟩:=I.pin p hp;exact⟨(hs.2 _ a).trans e,q,a,b,d⟩
 ·refine(I.hok b u e).stay (fun c v hc q=>(hs.2 c ?_).trans q) (fun _ q=>q) (fun _ _ _ q=>q) fun _ _ q=>q;rintro rfl;rcases hc with rfl | hc
  ·rw[I.free]at e;cases e
  ·rw[I.free]at hc;cases hc
end
end L2
namespace Br
open PySem PySem.Spec PyProof.Rows L2
section
variable{ρ:Dm.Env}{σ:L2.St}{H0 H:Hp}
theorem ay.drop(st:ay H0 H σ ρ)(i:Nat):ay H0 H (σ.set i none) (ρ.set i .un):=by
 have m:=st.mask i;have ne:∀{j:Nat} {c:Dm.Cell},(ρ.set i .un)[j]?=some c->c≠.un->j≠i:=fun {j c} e hc z=>by
  subst z;by_cases En:j<ρ.length
  ·rw[TR En]at e;cases e;exact hc rfl
  ·rw[Uk (by simpa using En)]at e;cases e
 have gs:∀{j:Nat},j≠i->(σ.set i none)[j]?=σ[j]?:=fun {j} h=>gc (Ue h);refine⟨m.same,by rw[Ug];exact m.len,fun j d e=>?_,fun j d e=>?_,fun j k d e a h1 h2 h3 h4=>?_⟩
 ·rw[gs (ne e (by simp))];exact m.sh j d e
 ·rw[gs (ne e (by simp))];exact m.ow j d e
 ·rw[gs (ne h1 (by simp))]at h3;rw[gs (ne h2 (by simp))]at h4;exact m.dis j k d e a h1 h2 h3 h4
theorem SSt.drop(st:ay H0 H σ ρ){i:Nat}(h0:i≠0):SSt σ ρ H0 H (σ.set i none) (ρ.set i .un) H0 H:=by
 refine⟨ay.drop st i,Stp.refl _ _ _,fun a ⟨j,d,h1,h2⟩=>.inl ?_,gc h0⟩;by_cases hj:i=j
 ·subst hj;by_cases En:i<ρ.length
  ·rw[TR En]at h1;cases h1
  ·rw[Uk (by simpa using En)]at h1;cases h1
 ·rw[gc hj]at h1 h2;exact⟨j,d,h1,h2⟩
noncomputable def φX(ea C:Addr):HO:=.ext fun h=>∃o,h.get? ea=some o/\o.cls=.ref C
theorem φX_ok{P:Program}{w:World}{H:Hp}{h:Heap}{ea C:Addr}{o:Obj}(e:h.get? ea=some o)(c:o.cls=.ref C):aR P w H h ea (φX ea C):=
 ⟨⟨o,e,c⟩,⟨o,e⟩,fun _ _ ⟨o,e,c⟩ k=>⟨o,k o e,c⟩⟩
noncomputable def Cx.in'(X:Cx)(pn:List (Addr×Obj))(xe:Value->Shared->Prop):Cx:={ X with pn:=X.pn++pn,xe:=xe }
noncomputable def Cx.sub'(X:Cx)(A:Around)(xe:Value->Shared->Prop):Cx:={ X with A:=A,calm:=false,xe:=xe }
end
section
variable{X:Cx}{uV pn:List (Addr×Obj)}{σ:L2.St}{H:Hp}{s:Shared}{xe:Value->Shared->Prop}
theorem CW(I:Inv X pn σ H s):Inv (Cx.in' X pn xe) [] σ H s:=
 ⟨⟨I.ok.1,I.ok.2,I.ok.3,I.ok.4,I.ok.5,I.ok.6,I.ok.7,I.ok.8,I.ok.9,I.ok.10,I.ok.11,I.ok.12,I.ok.13,I.ok.14,I.ok.15,I.ok.16,I.ok.17,I.ok.18⟩,I.os,I.bare,I.base,I.loc,I.cell,I.free,I.cW,fun p hp=>I.pin p (by rw[Uc]at hp;exact hp),I.hok,I.len⟩
theorem gE(I:Inv (Cx.in' X pn xe) uV σ H s):Inv X pn σ H s:=
 ⟨⟨I.ok.1,I.ok.2,I.ok.3,I.ok.4,I.ok.5,I.ok.6,I.ok.7,I.ok.8,I.ok.9,I.ok.10,I.ok.11,I.ok.12,I.ok.13,I.ok.14,I.ok.15,I.ok.16,I.ok.17,I.ok.18⟩,I.os,I.bare,I.base,I.loc,I.cell,I.free,I.cW,fun p hp=>I.pin p (UQ _ hp),I.hok,I.len⟩
theorem yZ{A:Around}(hA:A.frames=X.A.frames)(I:Inv X uV σ H s):Inv (Cx.sub' X A xe) uV σ H s:=
 ⟨⟨I.ok.1,I.ok.2,I.ok.3,I.ok.4,I.ok.5,I.ok.6,I.ok.7,I.ok.8,(fun h=>nomatch h),hA.trans I.ok.10,I.ok.11,I.ok.12,I.ok.13,I.ok.14,I.ok.15,I.ok.16,I.ok.17,I.ok.18⟩,I.os,I.bare,I.base,I.loc,I.cell,I.free,I.cW,I.pin,I.hok,I.len⟩
theorem qC{A:Around}(ok:X.Ok)(I:Inv (Cx.sub' X A xe) uV σ H s):Inv X uV σ H s:=
 ⟨ok,I.os,I.bare,I.base,I.loc,I.cell,I.free,I.cW,I.pin,I.hok,I.len⟩
end
structure qD(K:eg)(C:Addr):Prop where
 get:PySem.W.ir K C
 cls:(W9 K C).isSome=true
def PY(K:eg)(C:Addr)(c:V)(b:Bool):List V->Hp->VK->Prop:=fun xs H Q=>∃a,xs=[.ref a,c]/\H a=some (φX a C)/\Q (.bl b) H
section
variable{X:Cx}{C:Addr}{e:Expr}{f:FE}{p p2 pos:Pos}{b:Bool}
section
variable{σ:L2.St}{tn:Str}{H:Hp}{c:V}
theorem Jo{uV:List (Addr×Obj)}{s:Shared}{a:Addr}(I:Inv X uV σ H s)(h:H a=some (φX a C)):PySem.W.pZ a C s.heap:=(I.hok a _ h).1
theorem uL{u2:Value}(hc:RelV c u2)(hu:∀u,RelV c u->u=u2)(Z:qD X.K C)(k:UR X.K (.ref C) u2=some b):cy X (.builtin "isinstance") (PY X.K C c b):=by intro uV s σ H xs us Q I r h;obtain⟨a,rfl,ha,q⟩:=h;obtain⟨u,u3,rfl,rx,ry⟩:=vals2 r;cases rx;obtain rfl:=hu u3 ry;exact Uv (PySem.W.uJ Z.get Z.cls) I.kIn (Jo I ha) k (by intro q;cases q) fun tk=>⟨.bl b,H,I.tok tk,rfl,q⟩
theorem Jp{Q:VK}(h:tD (Dm.e1 (Dm.se C b) f) σ H Q):tCB (PY X.K C c b) (gJ (tD f) (gJ (tC c) rE)) σ H Q:=by
 obtain⟨H0,ρ,x,ρ',st,e,k⟩:=h;unfold Dm.e1 at e;split at e
 ·cases e
 rename_i x1 ρ1 e1;split at e
 ·cases e
 rename_i dx p1;cases dx with
 |exc C'=>
  unfold Dm.se at e;dsimp only at e;by_cases hC:C'=C
  ·subst hC;rw[if_pos rfl]at e;cases e;refine⟨H0,ρ,x1,_,st,e1,fun v H1 Hb t1 r1=>?_⟩;have rv:Rep Hb v (.exc C'):=(r1.look t1.st p1).full t1.st.same;cases rv with
   |exc q=>exact⟨_,rfl,q,k _ H1 Hb t1 (Rep.bl _)⟩
  ·rw[if_neg hC]at e;cases e
 |_=>cases e
theorem PZ{D:Addr}(Z:qD X.K C)(k:UR X.K (.ref C) (.ref D)=some b)(hgT:Gl X tn)(hmT:X.mg tn=some (.ref D))(hg:Gl X "isinstance")(hm:X.mg "isinstance" = none)(h:DE X e f)(MO:(tn == ("__debug__" : Str))=false:=by decide)
  (he:starEach [e,.Name tn p2] X.env=(false,eval e X.env)::starEach [.Name tn p2] X.env:=by rfl) (Dy:(backTo pos (starEach [.Name tn p2] X.env)).any (·.1)=false:=by rfl) (he2:starEach [.Name tn p2] X.env=(false,eval (.Name tn p2) X.env)::starEach [] X.env:=by rfl) :
  DE X (.Call (.Name "isinstance" p) [e,.Name tn p2] [] pos) (Dm.e1 (Dm.se C b) f):=
 PE.weak (eG (uL (c:=.ref D) rfl (fun u q=>q) Z k) hg hm Vb (cg h (cg (rB (v:=.ref D) hgT hmT rfl MO) eY he2) he) (he:=he) (Dy:=Dy)) fun _ _ _=>Jp
theorem Ms{T:String}(Z:qD X.K C)(k:UR X.K (.ref C) (.type T)=some b)(hvT:bootBuiltins tn=some (.type T))(hgT:Gl X tn)(hmT:X.mg tn=none)(hg:Gl X "isinstance")(hm:X.mg "isinstance" = none)(h:DE X e f)(hn:tn ≠ "__name__" := by decide)(MO:(tn == ("__debug__" : Str))=false:=by decide)
  (he:starEach [e,.Name tn p2] X.env=(false,eval e X.env)::starEach [.Name tn p2] X.env:=by rfl) (Dy:(backTo pos (starEach [.Name tn p2] X.env)).any (·.1)=false:=by rfl) (he2:starEach [.Name tn p2] X.env=(false,eval (.Name tn p2) X.env)::starEach [] X.env:=by rfl) :
  DE X (.Call (.Name "isinstance" p) [e,.Name tn p2] [] pos) (Dm.e1 (Dm.se C b) f):=
 PE.weak (eG (uL (c:=.ty T) rfl (fun u q=>by cases q;rfl) Z k) hg hm Vb (cg h (cg (yl (v:=.ty T) hgT hmT hvT rfl hn MO) eY he2) he) (he:=he) (Dy:=Dy)) fun _ _ _=>Jp
end
end
def tK(vs:List V):TA:=fun _ H Q=>Q vs H
def P1(K:eg)(C:Addr)(Ds:List Addr)(b:Bool):List V->Hp->VK->Prop:=fun xs H Q=>∃a tp,xs=[.ref a,.ref tp]/\H a=some (φX a C)/\H tp=some (.tup (Ds.map V.ref))/\Q (.bl b) H
theorem qE:∀{Ds:List Addr} {us:List Value},Vals (Ds.map V.ref) us->us=Ds.map TZ
 |[],_,.nil=>rfl
 |D::Ds,_,.cons r t=>by rw[qE t];cases r;rfl
section
variable{X:Cx}{C:Addr}{e:Expr}{es:List Expr}{f:FE}{p p2 pos:Pos}{b:Bool}{Ds:List Addr}
theorem P4:PA X [] (tK []):=eY
theorem xu{D:Addr}{tn:Str}(hgT:Gl X tn)(hmT:X.mg tn=some (.ref D))(h:PA X es (tK (Ds.map V.ref)))(MO:(tn == ("__debug__" : Str))=false:=by decide)(hs:starEach (.Name tn p2::es) X.env=(false,eval (.Name tn p2) X.env)::starEach es X.env:=by rfl) :
  PA X (.Name tn p2::es) (tK ((D::Ds).map V.ref)):=PA.weak (cg (rB (v:=.ref D) hgT hmT rfl MO) h hs) fun _ _ _ q=>q
theorem CY(Z:qD X.K C)(k:Wm X.K (.ref C) (Ds.map TZ)=some b):cy X (.builtin "isinstance") (P1 X.K C Ds b):=by
 intro uV s σ H xs us Q I r h;obtain⟨a,tp,rfl,ha,ht,q⟩:=h;obtain⟨u,u3,rfl,rx,ry⟩:=vals2 r;cases rx;cases ry;obtain⟨_,its,vr,o,ho,hc,n,hd⟩:=(show aR X.prog X.w H s.heap tp (.tup (Ds.map V.ref)) from I.hok tp _ ht)
 obtain rfl:=qE vr;obtain⟨oc,od,oda,osl⟩:=o;dsimp only at hc hd;subst hc hd;exact PySem.W.kia_tup (PySem.W.uJ Z.get Z.cls) I.kIn (Jo I ha) ho k (by intro q;cases q) fun tk=>⟨.bl b,H,I.tok tk,rfl,q⟩
theorem P5{σ:L2.St}{H:Hp}{Q:VK}(hz:Ds.length<=1000)(h:tD (Dm.e1 (Dm.se C b) f) σ H Q):tCB (P1 X.K C Ds b) (gJ (tD f) (gJ (K5 (tK (Ds.map V.ref))) rE)) σ H Q:=by
 obtain⟨H0,ρ,x,ρ',st,e,k⟩:=h;unfold Dm.e1 at e;split at e
 ·cases e
 rename_i x1 ρ1 e1;split at e
 ·cases e
 rename_i dx p1;cases dx with
 |exc C'=>
  unfold Dm.se at e;dsimp only at e;by_cases hC:C'=C
  ·subst hC;rw[if_pos rfl]at e;cases e;refine⟨H0,ρ,x1,_,st,e1,fun v H1 Hb t1 r1=>?_⟩;have rv:Rep Hb v (.exc C'):=(r1.look t1.st p1).full t1.st.same;cases rv with
   |exc q=>refine⟨by rw[Dp];exact VM (Ad hz),fun tp ht=>?_⟩;exact⟨_,tp,rfl,by rw[aj (az q ht)];exact q,ak,k _ H1 _ (t1.trans (.grow t1.st (aJ.jJ t1.st.same ht))) (Rep.bl _)⟩
  ·rw[if_neg hC]at e;cases e
 |_=>cases e
theorem P6{pt:Pos}{cx:Nat}(Z:qD X.K C)(k:Wm X.K (.ref C) (Ds.map TZ)=some b)(hT:PA X es (tK (Ds.map V.ref)))(hz:Ds.length<=1000)(hg:Gl X "isinstance")(hm:X.mg "isinstance" = none)(h:DE X e f)
  (he:starEach [e,.Tuple es cx pt] X.env=(false,eval e X.env)::starEach [.Tuple es cx pt] X.env:=by rfl) (Dy:(backTo pos (starEach [.Tuple es cx pt] X.env)).any (·.1)=false:=by rfl) (he2:starEach [.Tuple es cx pt] X.env=(false,eval (.Tuple es cx pt) X.env)::starEach [] X.env:=by rfl) :
  DE X (.Call (.Name "isinstance" p) [e,.Tuple es cx pt] [] pos) (Dm.e1 (Dm.se C b) f):=
 PE.weak (eG (CY Z k) hg hm Vb (cg h (cg (BG hT) eY he2) he) (he:=he) (Dy:=Dy)) fun _ _ _=>P5 hz
end
theorem CZ{K:eg}{h₀:Heap}{mg:Str->Option Value}{x:Str}{C:Addr}{bmB:List Value}{newId:String}(X:K.In h₀)(G:mg x=some (.ref C))(q:Xa K C bmB newId=true):OwnCls x C bmB newId mg h₀:=by
 refine⟨G,?_⟩;unfold Xa at q;split at q
 ·rename_i dd cd sl ho;split at q
  ·rename_i C' bm k0 k1 k2 k3 n k5 hm hs;simp only[TN,beq_iff_eq,Bool.not_eq_true']at q;obtain⟨⟨⟨⟨⟨rfl,rfl⟩,P7⟩,ht⟩,hok⟩,hni⟩:=q;obtain⟨nm,bs,mro,ns,qn,hd,sn,sub,ab,col,del⟩:=cd;dsimp only at hm P7 hok hni;subst hm P7;have hsl:sl=#[k0,k1,k2,k3,some (.builtin n),k5]:=by
    obtain⟨l⟩:=sl;simp only at hs;rw[hs]
   subst hsl;exact⟨bm,ns,nm,qn,bs,hd,sn,sub,ab,col,dd,k0,k1,k2,k3,k5,_,X _ _ ho,.of_isNs (PySem.W.isNs_of_in X hok),PySem.W.nsMap_none_of_in X hok hni,PySem.W.tail_of_in X ht⟩
  ·cases q
 ·cases q
noncomputable abbrev bmV:List Value:=[.type "ValueError",.type "Exception",.type "BaseException",.type "object"]
structure AO(K:eg)(x qual:Str)(st:Stmt)(f:Addr)(fd:FuncData):Prop where
 ex:∃(oc:Value) (od:Option Addr) (dV kV doc pm:Value) (an:Option Addr) (cdv ct:Value) (osl:Array (Option Value)),
  fd=TX x qual (aN st) (aI st) (ah st) dV kV doc pm an cdv ct/\K.lookup f=some ⟨oc,od,.func fd,osl⟩/\Va K cdv qual=true
 kp:Ul K (.ref f)=true
section
variable{P:Program}{w:World}{K:eg}{mg:Str->Option Value}{base:Heap}
theorem y9{x qual:Str}{st:Stmt}{f:Addr}{oc:Value}{od an:Option Addr}{osl:Array (Option Value)}{dV kV doc pm cdv ct:Value}(l:K.lookup f=some ⟨oc,od,.func (TX x qual (aN st) (aI st) (ah st) dV kV doc pm an cdv ct),osl⟩)
  (c:Va K cdv qual=true) (k:Ul K (.ref f)=true):AO K x qual st f (TX x qual (aN st) (aI st) (ah st) dV kV doc pm an cdv ct):=⟨⟨oc,od,dV,kV,doc,pm,an,cdv,ct,osl,rfl,l,c⟩,k⟩
end
theorem G5{g:List Dat->Option RV}{c:Int}{vs:List V}{H:Hp}{Q:VK}{E:XK}(h:spD (fun ds=>g (ds++[.int c])) vs H Q E):spD g (vs++[.int c]) H Q E:=by obtain⟨H0,ds,z,s,r,e,k⟩:=h;exact⟨H0,ds++[.int c],z,s,r.append (.cons (.int _) .nil),e,k⟩
section
variable{σ:L2.St}{H:Hp}{Q:VK}
theorem G6{g:List Dat->Option RV}{c:Int}{fs:List FE}{E:XK}(h:tD (Dm.eF (fun ds=>g (ds++[.int c])) fs) σ H Q):qe (spD g) [.int c] E (tDA fs) σ H Q:=by obtain⟨H0,ρ,xs,ρ',st,e,k⟩:=wV (E:=E) h;refine⟨H0,ρ,xs,ρ',st,e,fun vs H0' H' t r=>?_⟩;have:=k vs H0' H' t r;dsimp only at this;rw[Uc]at this;exact G5 this
end
end Br
namespace Dm
noncomputable abbrev FN:=Env->List (List Dat)->Option (Env×List (List Dat))
noncomputable def nNx:FN:=fun ρ r=>some (ρ,r)
noncomputable def G7(s u:FN):FN:=fun ρ r=>match s ρ r with
 |none=>none
 |some (ρ1,r1)=>u ρ1 r1
noncomputable def nIf(t:FT)(a b:FN):FN:=fun ρ r=>match t ρ with
 |none=>none
 |some (true,ρ1)=>a ρ1 r
 |some (false,ρ1)=>b ρ1 r
noncomputable def C0(i e:FE):FN:=fun ρ r=>match i ρ with
 | some (.val (.int k),ρ1)=>(match ixN r.length k with
  |none=>none
  |some m=>match r[m]? with
   |none=>none
   |some row=>match e ρ1 with
    |none=>none
    |some (x,ρ2)=>match tk ρ2 x with
     |none=>none
     |some (d,ρ3)=>if row.length<SZ then some (ρ3,r.set m (row++[d])) else none)
 |_=>none
noncomputable def uM(bd:FB)(body:FN):List Dat->FN
 |[],ρ,r=>some (ρ,r)
 |d::q,ρ,r=>match bd d ρ with
  |none=>none
  |some ρ1=>match body ρ1 r with
   |none=>none
   |some (ρ2,r2)=>uM bd body q ρ2 r2
noncomputable def G8(it:FI)(bd:FB)(body:FN):FN:=fun ρ r=>match it ρ with
 |none=>none
 |some (ds,ρ1)=>uM bd body ds ρ1 r
noncomputable def nMk(bd:FB):List Dat->Env->Option Env
 |[],ρ=>some ρ
 |d::r,ρ=>match bd d ρ with
  |none=>none
  |some ρ1=>nMk bd r ρ1
noncomputable def uN(j:Nat)(it:FI)(own:Nat)(bd:FB)(Sz:FN):FS:=fun ρ=>if j=0 then none else match it ρ with
 |none=>none
 | some (ds,ρ1)=>if ds.length≤SZ then (match nMk bd ds (ρ1++Dk own .un) with
  |none=>none
  |some ρ2=>match Sz ((ρ2.take ρ1.length).set j .un) (Dk ds.length []) with
   |none=>none
   |some (ρ3,r)=>some (.nx (ρ3.set j (.ow (.lst (r.map .lst)))))) else none
noncomputable def sC:List Dat->Option RV
 |[.dct ks _]=>if ks.length<=63 then some (.new (.lst ((cB (fun a b=>decide (a<b)) ks).map .int))) else none
 |_=>none
noncomputable def y_:List Dat->Option RV
 |[.dct ks vs]=>some (.new (.dct ks vs))
 |_=>none
noncomputable def kM:List Int->List Dat->Int->List Int
 |k::ks,_::vs,i=>if k=i then kM ks vs i else k::kM ks vs i
 |_,_,_=>[]
noncomputable def kN:List Int->List Dat->Int->List Dat
 |k::ks,v::vs,i=>if k=i then kN ks vs i else v::kN ks vs i
 |_,_,_=>[]
noncomputable def uO(i:Nat)(e:FE):FE:=fun ρ=>match ρ[i]? with
 | some (.ow (.dct _ _))=>(match e ρ with
  | some (.val (.int k),ρ1)=>(match ρ1[i]? with
   | some (.ow (.dct ks vs))=>(match jR ks vs k with
    |some d=>some (.val d,ρ1.set i (.ow (.dct (kM ks vs k) (kN ks vs k))))
    |none=>none)
   |_=>none)
  |_=>none)
 |_=>none
mutual
noncomputable def fX:Dat->Bool
 |.tup xs=>nu xs
 |.lst xs=>nu xs
 |.dct _ _=>false
 |.exc _=>false
 |_=>true
noncomputable def nu:List Dat->Bool
 |[]=>true
 |x::r=>fX x&&nu r
end
noncomputable def tkd(ρ:Env):Val->Option (Dat×Env)
 |.val d=>some (d,ρ)
 |.new d=>some (d,ρ)
 |.slot i=>match ρ[i]? with
  |some (.ow (.dct ks vs))=>some (.dct ks vs,ρ)
  |some (.ow d)=>some (d,ρ.set i (.sh d))
  |some (.sh d)=>some (d,ρ)
  |_=>none
noncomputable def AQ(ρ:Env):List Val->Option (List Dat×Env)
 |[]=>some ([],ρ)
 |x::r=>match tkd ρ x with
  |none=>none
  |some (d,ρ1)=>match AQ ρ1 r with
   |none=>none
   |some (ds,ρ2)=>some (d::ds,ρ2)
noncomputable def eFd(f:List Dat->Option RV)(as:List FE):FE:=fun ρ=>match eAs as ρ with
 |none=>none
 |some (xs,ρ1)=>match AQ ρ1 xs with
  |none=>none
  |some (ds,ρ2)=>match f ds with
   |none=>none
   |some v=>if fX v.dat then some (v.bH,ρ2) else none
noncomputable def jX:Dat->Dat->Option RV
 |.int i,.int j=>if i.natAbs.log2<1000000/\j.natAbs.log2<1000000 then vI (i*j) else none
 |_,_=>none
noncomputable def iw(lo k:Int)(n:Nat):List Dat:=(TV n).map fun i=>Dat.int (lo+(i:Nat)*k)
noncomputable def cR(i j k:Int):Nat:=if i<j then ((j-i-1) / k+1).toNat else 0
noncomputable def iRs(a b c:FE):FI:=fun ρ=>match a ρ with
 | some (.val (.int i),ρ1)=>(match b ρ1 with
  | some (.val (.int j),ρ2)=>(match c ρ2 with
   |some (.val (.int k),ρ3)=>if (0<k/\k<=1000)/\j<=BIG/\-BIG<=j/\i<=BIG/\-BIG<=i then some (iw i k (cR i j k),ρ3) else none
   |_=>none)
  |_=>none)
 |_=>none
noncomputable def kO:List Val->Option (List Dat)
 |[]=>some []
 |.val d::r=>(kO r).map fun ds=>d::ds
 |_=>none
noncomputable def eFn(f:List Dat->Option (RV×Dat))(e0:FE)(as:List FE):FE:=fun ρ=>match eAs (e0::as) ρ with
 | some (.new d::xs,ρ1)=>(match kO xs with
  |none=>none
  |some ds=>match f (d::ds) with
   |none=>none
   |some (v,_)=>some (v.bH,ρ1))
 |_=>none
end Dm
namespace Br
open PySem PySem.Spec PyProof.Rows L2
section
variable{H0 H:Hp}{rows:List (List Dat)}{ps:List Addr}{H0s Hs:Hp}{ρs:Dm.Env}{σs:L2.St}{ρ ρ':Dm.Env}{j:Nat}{σ:L2.St}{b:Addr}
def aW(H0 H:Hp):List Addr->List (List Dat)->Prop
 |[],[]=>True
 |p::ps,r::rs=>(∃xs,H p=some (.lst xs)/\aD H0 xs r)/\aW H0 H ps rs
 |_,_=>False
theorem aW.len:∀{ps:List Addr} {rs:List (List Dat)},aW H0 H ps rs->ps.length=rs.length
 |[],[],_=>rfl
 |_::_,_::_,h=>by simp[aW.len h.2]
theorem aW.get:∀{ps:List Addr} {rs:List (List Dat)} {i:Nat} {r:List Dat},aW H0 H ps rs->rs[i]?=some r->∃p xs,ps[i]?=some p/\H p=some (.lst xs)/\aD H0 xs r
 |[],[],_,_,_,e=>by simp at e
 |p::_,_::_,0,_,h,e=>by simp at e;subst e;obtain⟨xs,h1,h2⟩:=h.1;exact⟨p,xs,rfl,h1,h2⟩
 |_::_,_::_,i+1,_,h,e=>by obtain⟨p,xs,h1,h2⟩:=aW.get (i:=i) h.2 (by simpa using e);exact⟨p,xs,by simpa using h1,h2⟩
theorem aW.mono{H0 H H0' H':Hp}:∀{ps:List Addr} {rs:List (List Dat)},aW H0 H ps rs->av H0 H0'->(∀p∈ps,H' p=H p)->aW H0' H' ps rs
 |[],[],_,_,_=>trivial
 |p::ps,r::rs,h,s,k=>by obtain⟨⟨xs,h1,h2⟩,h3⟩:=h;exact⟨⟨xs,by rw[k p To];exact h1,h2.mono s⟩,aW.mono h3 s fun q hq=>k q (Tq _ hq)⟩
theorem aW.set{p:Addr}{xs:List V}{r:List Dat}(w:aD H0 xs r):∀{ps:List Addr} {rs:List (List Dat)} {i:Nat},aW H0 H ps rs->ps.Nodup->ps[i]?=some p->aW H0 (upd H p (.lst xs)) ps (rs.set i r)
 |[],[],_,_,_,e=>by simp at e
 |q::ps,_::rs,0,h,n,e=>by simp at e;subst e;refine⟨⟨xs,ak,w⟩,h.2.mono (av.refl _) fun y hy=>aj fun z=>?_⟩;subst z;exact(UB.mp n).1 hy
 |q::ps,_::rs,i+1,h,n,e=>by
  have e':ps[i]?=some p:=by simpa using e
  obtain⟨⟨ys,h1,h2⟩,h3⟩:=h;obtain⟨n1,n2⟩:=UB.mp n;refine⟨⟨ys,?_,h2⟩,aW.set w h3 n2 e'⟩;rw[aj fun z=>?_]
  ·exact h1
  ·subst z;exact n1 (Vo e')
theorem aW.some:∀{ps:List Addr} {rs:List (List Dat)},aW H0 H ps rs->∀p∈ps,∃o,H p=some o
 |[],[],_,_,h=>by cases h
 |q::ps,_::rs,h,p,hp=>by
  rcases Tp.mp hp with rfl | hp
  ·obtain⟨xs,h1,_⟩:=h.1;exact⟨_,h1⟩
  ·exact aW.some h.2 p hp
structure NS(j:Nat)(σs:L2.St)(ρs:Dm.Env)(H0s Hs:Hp)(σ:L2.St)(ρ:Dm.Env)(H0 H:Hp)(rows:List (List Dat)):Prop where
 st:ay H0 H σ ρ
 stp:Stp (ao σs ρs) H0s Hs H0 H
 own:∀a,ao σ ρ a->ao σs ρs a\/Hs a=none
 fx:σ[0]?=σs[0]?
 ex:∃(L:Addr) (ps:List Addr),σ[j]?=some (some (.ref L))/\Hs L=none/\H0 L=none/\¬ao σ ρ L/\H L=some (.lst (ps.map V.ref))/\(L::ps).Nodup/\(∀p∈ps,Hs p=none/\H0 p=none/\¬ao σ ρ p)/\aW H0 H ps rows
theorem NS.est{H0 H H0' H':Hp}(n:NS j σs ρs H0s Hs σ ρ H0 H rows)(t:ESt σ ρ H0 H ρ' H0' H'):NS j σs ρs H0s Hs σ ρ' H0' H' rows:=by
 obtain⟨L,ps,h1,h2,h3,h4,h5,h6,h7,h8⟩:=n.ex;obtain⟨k1,k2,k3⟩:=t.dH h5 h3 h4;refine⟨t.st,n.stp.trans t.stp n.own,fun a z=>n.own a (t.own a z),n.fx,L,ps,h1,h2,k2,k3,k1,h6,fun p hp=>?_,h8.mono t.stp.s0 fun p hp=>?_⟩
 ·obtain⟨q1,q2,q3⟩:=h7 p hp;obtain⟨o,q4⟩:=h8.some p hp;obtain⟨z1,z2,z3⟩:=t.dH q4 q2 q3;exact⟨q1,z2,z3⟩
 ·obtain⟨q1,q2,q3⟩:=h7 p hp;obtain⟨o,q4⟩:=h8.some p hp;obtain⟨z1,z2,z3⟩:=t.dH q4 q2 q3;rw[z1,q4]
theorem NS.bind{σ σ':L2.St}(n:NS j σs ρs H0s Hs σ ρ H0 H rows)(st:ay H0 H σ' ρ')(o:∀a,ao σ' ρ' a->ao σ ρ a)(hj:σ'[j]?=σ[j]?)(h0:σ'[0]?=σ[0]?):NS j σs ρs H0s Hs σ' ρ' H0 H rows:=by obtain⟨L,ps,h1,h2,h3,h4,h5,h6,h7,h8⟩:=n.ex;exact⟨st,n.stp,fun a z=>n.own a (o a z),h0.trans n.fx,L,ps,hj.trans h1,h2,h3,fun z=>h4 (o L z),h5,h6,fun p hp=>⟨(h7 p hp).1,(h7 p hp).2.1,fun z=>(h7 p hp).2.2 (o p z)⟩,h8⟩
noncomputable def uP(H0 H:Hp)(ps:List Addr):Hp:=fun b=>if b∈ps then H b else H0 b
theorem sD(h:b∈ps):uP H0 H ps b=H b:=by unfold uP;rw[if_pos h]
theorem fY(h:b∉ps):uP H0 H ps b=H0 b:=by unfold uP;rw[if_neg h]
theorem AR(s:av H0 H):av H0 (uP H0 H ps):=fun b o e=>by
 by_cases q:b∈ps
 ·rw[sD q];exact s _ _ e
 ·rw[fY q];exact e
theorem C1(s:av H0 H):av (uP H0 H ps) H:=fun b o e=>by
 by_cases q:b∈ps
 ·rw[sD q]at e;exact e
 ·rw[fY q]at e;exact s _ _ e
theorem aW.reps{H0 H H1:Hp}:∀{ps:List Addr} {rs:List (List Dat)},aW H0 H ps rs->av H0 H1->(∀p∈ps,H1 p=H p)->aD H1 (ps.map V.ref) (rs.map Dat.lst)
 |[],[],_,_,_=>.nil
 |p::ps,r::rs,h,s,k=>by obtain⟨⟨xs,h1,h2⟩,h3⟩:=h;exact .cons (.lst (.inl ((k p To).trans h1)) (h2.mono s)) (aW.reps h3 s fun q hq=>k q (Tq _ hq))
theorem NS.done{ρ:Dm.Env}(n:NS j σs ρs H0s Hs σ ρ H0 H rows):∃H0',SSt σs ρs H0s Hs σ (ρ.set j (.ow (.lst (rows.map Dat.lst)))) H0' H:=by
 obtain⟨L,ps,h1,h2,h3,h4,h5,h6,h7,h8⟩:=n.ex;obtain⟨n1,n2⟩:=UB.mp h6;have ss:=AR (ps:=ps) n.st.same;have st:ay (uP H0 H ps) H σ ρ:={
  same:=C1 n.st.same
  len:=n.st.len
  sh:=fun i d h=>by obtain⟨v,z,r⟩:=n.st.sh i d h;exact⟨v,z,r.mono ss⟩
  ow:=fun i d h=>by obtain⟨b,z,q,w⟩:=n.st.ow i d h;have nb:b∉ps:=fun y=>(h7 b y).2.2 ⟨i,d,h,z⟩;exact⟨b,z,by rw[fY nb];exact q,w.mono ss rfl⟩
  dis:=n.st.dis }
 refine⟨uP H0 H ps,st.kK h1 h4 (by rw[fY n1];exact h3) ⟨_,h5,h8.reps ss fun p hp=>sD hp⟩,⟨n.stp.s0.trans ss,n.stp.s1,fun a o e=>?_,n.stp.s3⟩,fun a z=>?_,n.fx⟩
 ·by_cases q:a∈ps
  ·exact .inl (h7 a q).1
  ·rw[fY q]at e;exact n.stp.s2 a o e
 ·obtain⟨i,d,z1,z2⟩:=z;by_cases q:j=i
  ·subst q;rw[h1]at z2;cases z2;exact .inr h2
  ·rw[gc q]at z1;exact n.own a ⟨i,d,z1,z2⟩
def tDN(j:Nat)(f:Dm.FN):TS:=fun D σ H=>∃σs ρs H0s Hs H0 ρ rows ρ' rows',NS j σs ρs H0s Hs σ ρ H0 H rows/\f ρ rows=some (ρ',rows')/\∀σ' H0' H',NS j σs ρs H0s Hs σ' ρ' H0' H' rows'->av H0 H0'->D.nx σ' H'
end
section
variable{D:Ends}{σ:L2.St}{H:Hp}{j:Nat}
theorem P8(h:tDN j Dm.nNx D σ H):Bo D σ H:=by obtain⟨σs,ρs,H0s,Hs,H0,ρ,rows,ρ',rows',n,e,k⟩:=h;cases e;exact k σ H0 H n (av.refl _)
theorem Mt{s u:Dm.FN}(h:tDN j (Dm.G7 s u) D σ H):zX (tDN j s) (tDN j u) D σ H:=by
 obtain⟨σs,ρs,H0s,Hs,H0,ρ,rows,ρ',rows',n,e,k⟩:=h;unfold Dm.G7 at e;split at e
 ·cases e
 rename_i ρ1 r1 e1;exact⟨σs,ρs,H0s,Hs,H0,ρ,rows,ρ1,r1,n,e1,fun σ' H0' H' n' s1=>⟨σs,ρs,H0s,Hs,H0',ρ1,r1,ρ',rows',n',e,fun σ2 H2 Hc n2 s2=>k σ2 H2 Hc n2 (s1.trans s2)⟩⟩
theorem P9{t:FT}{a b:Dm.FN}(h:tDN j (Dm.nIf t a b) D σ H):KH (tDT t) (tDN j a) (tDN j b) D σ H:=by
 obtain⟨σs,ρs,H0s,Hs,H0,ρ,rows,ρ',rows',n,e,k⟩:=h;unfold Dm.nIf at e;split at e
 ·cases e
 ·rename_i ρ1 e1;refine⟨H0,ρ,true,ρ1,n.st,e1,fun H1 Hb t1=>?_⟩;dsimp only;rw[if_pos rfl];exact⟨σs,ρs,H0s,Hs,H1,ρ1,rows,ρ',rows',n.est t1,e,fun σ2 H2 Hc n2 s2=>k σ2 H2 Hc n2 (t1.stp.s0.trans s2)⟩
 ·rename_i ρ1 e1;refine⟨H0,ρ,false,ρ1,n.st,e1,fun H1 Hb t1=>?_⟩;dsimp only;rw[if_neg Ua];exact⟨σs,ρs,H0s,Hs,H1,ρ1,rows,ρ',rows',n.est t1,e,fun σ2 H2 Hc n2 s2=>k σ2 H2 Hc n2 (t1.stp.s0.trans s2)⟩
theorem Mu{fi:Dm.FI}{bd:Dm.FB}{g:TG}{body:Dm.FN}{is:List Nat}(hb:BD is g bd)(hj:j∉is)(h:tDN j (Dm.G8 fi bd body) D σ H):KQ (tDI fi) g (tDN j body) D σ H:=by
 obtain⟨σs,ρs,H0s,Hs,H0,ρ,rows,ρ',rows',n,e,k⟩:=h;unfold Dm.G8 at e;split at e
 ·cases e
 rename_i ys ρ1 e1;refine⟨H0,ρ,ys,ρ1,n.st,e1,fun J H00 Hb t1 jw=>?_⟩;refine ⟨fun i m σ H=>∃ H0 ρ rows,NS j σs ρs H0s Hs σ ρ H0 H rows∧av H00 H0∧m=ys.length-i∧i≤ys.length∧Dm.uM bd body (ys.drop i) ρ rows=some (ρ',rows'),
  ⟨ys.length,H00,ρ1,rows,n.est t1,av.refl _,by simp,T8 _,by simpa using e⟩,?_⟩
 rintro i m σ H ⟨H0,ρ,rows,n,s00,rfl,hi,e⟩;obtain⟨js,jg⟩:=jw H0 H s00 n.st.same;by_cases En:i<ys.length
 ·have hd:ys[i]?=some ys[i]:=by simp[En]
  obtain⟨g1,g2⟩:=jg i ys[i] hd;rw[Uz En]at e;unfold Dm.uM at e;refine .inr ⟨g1,fun σ' H'=>∃H0 ρ rows,NS j σs ρs H0s Hs σ' ρ H0 H' rows/\av H00 H0/\Dm.uM bd body (ys.drop (i+1)) ρ rows=some (ρ',rows'),?_,fun x H' y=>?_⟩
  ·rintro σ' H' ⟨H0',ρ2,r2,h1,h2,h3⟩;exact⟨ys.length-(i+1),by lia,H0',ρ2,r2,h1,h2,rfl,En,h3⟩
  ·obtain⟨H0',gr,rx⟩:=g2 x H' y;split at e
   ·cases e
   ·rename_i ρ2 e2;have t2:=ESt.grow n.st gr;have n2:=n.est t2;refine hb H0' H' σ ρ ρ2 x ys[i] _ t2.st rx e2 fun σ2 st2 o2 k2 _ f2=>?_;have n3:=n2.bind st2 o2 (k2 j hj) f2;have s3:av H00 H0':=s00.trans gr.s0;split at e
    ·cases e
    ·rename_i ρ3 r3 e3;refine⟨σs,ρs,H0s,Hs,H0',ρ2,rows,ρ3,r3,n3,e3,fun σ4 H4 Hd n4 s4=>⟨H4,ρ3,r3,n4,s3.trans s4,e⟩⟩
 ·have e':i=ys.length:=by lia
  subst e';rw[V5]at e;cases e;exact .inl ⟨js _ (Nat.le_refl _),k σ H0 H n (t1.stp.s0.trans s00)⟩
theorem Mv{K:eg}{fi f:FE}(h:tDN j (Dm.C0 fi f) D σ H):tO (tBM K "list" rL (tOp (K8 K) (rA j) (tD fi)) (tDA [f])) D σ H:=by
 obtain⟨σs,ρs,H0s,Hs,H0,ρ,rows,ρ',rows',n,e,k⟩:=h;unfold Dm.C0 at e;split at e
 case h_2=>cases e
 rename_i z ρ1 e1;split at e
 ·cases e
 rename_i m em;split at e
 ·cases e
 rename_i row er;split at e
 ·cases e
 rename_i x ρ2 e2;split at e
 ·cases e
 rename_i d ρ3 e3;split at e
 case isFalse=>cases e
 rename_i hz;cases e;obtain⟨L,ps0,h1,_⟩:=n.ex;refine⟨_,h1,H0,ρ,_,ρ1,n.st,e1,fun y H1 Hb t1 r1=>?_⟩;have n1:=n.est t1;obtain⟨L',ps,q1,q2,q3,q4,q5,q6,q7,q8⟩:=n1.ex;rw[h1]at q1;cases q1;obtain⟨q,xs,hq,hqx,hqr⟩:=q8.get er;have hqm:q∈ps:=Vo hq;refine⟨L,ps.map V.ref,z,V.ref q,rfl,Rep.isInt r1,.inl (.inl q5),?_,.inl ⟨rfl,xs,.inl (.inl hqx)⟩,?_⟩
 ·show (L2.ixN (ps.map V.ref).length z).bind (fun j=>(ps.map V.ref)[j]?)=_;rw[Dp,q8.len,<- Lm,em];show (ps.map V.ref)[m]?=_;rw[TM,hq];rfl
 refine⟨H1,ρ1,[x],ρ2,n1.st,by unfold Dm.eAs;rw[e2];rfl,fun vs H2 Hc t2 r2=>?_⟩;cases r2 with
 |cons r rr=>
  cases rr;obtain⟨H3,t3,b3,r3,_,_⟩:=take1 t2 (av.refl _) r e3;have n3:=n1.est t3;obtain⟨L',ps',w1,w2,w3,w4,w5,w6,w7,w8⟩:=n3.ex;rw[h1]at w1;cases w1;obtain⟨k1,_,_⟩:=t3.dH q5 q3 q4;rw[k1]at w5;have ep:ps'=ps:=by
   have:ps.map V.ref=ps'.map V.ref:=by injection w5 with z;injection z
   exact((List.map_inj_right fun a b h=>by injection h).mp this).symm
  subst ep;obtain⟨q',ys,hq',hqy,P_⟩:=w8.get er;rw[hq]at hq';cases hq';have nL:L≠q:=fun z=>(UB.mp w6).1 (z▸hqm);refine⟨q,ys,_,rfl,rfl,hqy,by rw[P_.length];exact Tw hz (by decide),?_⟩;obtain⟨z1,z2,z3⟩:=w7 q hqm;refine k σ H3 _ ⟨n3.st.aside z2 z3,n3.stp.aside z1,n3.own,n3.fx,L,ps',h1,w2,w3,w4,by rw[aj nL];exact k1,w6,w7,aW.set (P_.append (.cons r3 .nil)) w8 (UB.mp w6).2 hq⟩ (t1.stp.s0.trans t3.stp.s0)
end
section
variable{bd:Dm.FB}{is:List Nat}{Sz:Dm.FN}{j own:Nat}{fi:Dm.FI}{ρ:Dm.Env}{σ:L2.St}{g:TG}
theorem C2{own:Nat}{Q:VK}{H00 Hb:Hp}{ρ1 ρ2:Dm.Env}{ds:List Dat}{J:It}(hb:BD is g bd)(hl:∀i∈is,σ.length<=i)
  (st1:ay H00 Hb σ ρ1) (jw:JW J H00 ds) (hsz:ds.length<=Dm.SZ) (e2:Dm.nMk bd ds (ρ1++Dk own .un)=some ρ2) (D:Addr) (hD:Hb D=none)
  (k:∀ H0' H' (ps:List Addr),ay H0' H' σ (ρ2.take ρ1.length)→Stp (ao σ ρ1) H00 Hb H0' H'→(∀ a,ao σ (ρ2.take ρ1.length) a→ao σ ρ1 a)→H' D=some (.lst (ps.map V.ref))→H0' D=none→(D::ps).Nodup→(∀ p∈ps,Hb p=none∧H0' p=none) →
   aW H0' H' ps (Dk ds.length [])->Q (.ref D) H') :
  ∃W:Nat->Nat->L2.St->Hp->Prop,(∃m,W 0 m (σ++Dk own none) (upd Hb D (.lst [])))/\∀i m σ' H',W i m σ' H' ->
  (J.stop i H'∧Q (.ref D) H')∨(J.go i H'∧∀ x H2,J.yld i H' x H2→g x σ' H2 fun σ2 H3=>Gf σ2 H3 fun b H4=>if b=true
   then FZ rE σ2 H4 fun y H5=>∃DZ,H5 D=some (.lst DZ)/\DZ.length<sizeLine/\∃m',m'<m/\W (i+1) m' σ2 (upd H5 D (.lst (DZ++[y])))
   else ∃m',m'<m/\W (i+1) m' σ2 H4):=by
 have noD:¬ao σ ρ1 D:=st1.bZ hD;refine ⟨fun i m σ' H'=>∃ (H0c:Hp) (ρc:Dm.Env) (ps:List Addr),ay H0c H' σ' ρc∧av H00 H0c∧m=ds.length-i∧i≤ds.length∧Dm.nMk bd (ds.drop i) ρc=some ρ2 ∧
  H' D=some (.lst (ps.map V.ref))/\ps.length=i/\H0c D=none/\(D::ps).Nodup/\(∀p∈ps,Hb p=none/\H0c p=none)/\aW H0c H' ps (Dk i [])/\Stp (ao σ ρ1) H00 Hb H0c H'/\(∀j,j<σ.length->σ'[j]?=σ[j]?)/\(∀a,ao σ' ρc a->ao σ ρ1 a),
  ⟨ds.length,H00,ρ1++Dk own .un,[],(st1.aside (st1.same.free hD) noD).ext own,av.refl _,by simp,T8 _,by simpa using e2,ak,rfl,st1.same.free hD,by simp,by simp,trivial,(Stp.refl _ _ _).aside hD,
   fun j hj=>Tr hj,fun a z=>kH st1 z⟩,?_⟩
 rintro i m σ' H' ⟨H0c,ρc,ps,sc,s00,rfl,hi,ec,hDl,Dy,n0,nd,hps,hro,sp,hσ,ho⟩;have nOc:¬ao σ' ρc D:=fun z=>noD (ho D z);have nOp:∀p∈ps,¬ao σ' ρc p:=fun p hp z=>st1.bZ (hps p hp).1 (ho p z);obtain⟨js,jg⟩:=jw H0c H' s00 sc.same;by_cases En:i<ds.length
 ·have hd:ds[i]?=some ds[i]:=by simp[En]
  obtain⟨g1,g2⟩:=jg i ds[i] hd;rw[Uz En]at ec;unfold Dm.nMk at ec;refine .inr ⟨g1,fun y H2 yy=>?_⟩;obtain⟨H0',gr,rx⟩:=g2 y H2 yy;split at ec
  ·cases ec
  rename_i ρ3 e3;have t2:=ESt.grow sc gr;obtain⟨hD2,n02,no2⟩:=t2.dH hDl n0 nOc;refine hb H0' H2 σ' ρc ρ3 y ds[i] _ t2.st rx e3 fun σ3 st3 o3 k3 d3 _=>?_;unfold Gf;dsimp only;rw[if_pos rfl];refine⟨T8 _,fun p hp=>?_⟩;have hpD:p≠D:=fun z=>by rw[z,hD2]at hp;cases hp
  have noP:¬ao σ3 ρ3 p:=st3.bZ hp;have Qa:∀q∈ps,q≠p:=fun q hq z=>by obtain⟨o,h1⟩:=hro.some q hq;have:=gr.s1 q o h1;rw[z,hp]at this;cases this
  refine⟨ps.map V.ref,by rw[aj (Ue hpD)];exact hD2,?_,ds.length-(i+1),by lia,H0',ρ3,ps++[p],?_,s00.trans gr.s0,rfl,En,ec,?_,by simp[Dy],n02,?_,?_,?_,?_,?_,?_⟩
  ·rw[Dp,Dy];unfold Dm.SZ at hsz;exact Tw (Tw En hsz) (by decide)
  ·have no3:¬ao σ3 ρ3 D:=fun z=>no2 (o3 D z);exact(st3.aside (st3.same.free hp) noP).aside n02 no3
  ·rw[ak,Uw];rfl
  ·rw[<- List.cons_append];refine List.nodup_append.mpr ⟨nd,by simp,fun a ha b hb=>?_⟩;rw[TJ.mp hb];rcases Tp.mp ha with rfl | ha
   ·exact Ue hpD
   ·exact Qa a ha
  ·intro q hq;rcases T9.mp hq with hq | hq
   ·refine⟨(hps q hq).1,?_⟩;obtain⟨o,h1⟩:=hro.some q hq;exact(t2.dH h1 (hps q hq).2 (nOp q hq)).2.1
   ·rw[TJ.mp hq];exact⟨(sp.trans t2.stp fun a z=>.inl (ho a z)).gone hp,st3.same.free hp⟩
  ·have base:aW H0' (upd (upd H2 p (.lst [])) D (.lst (ps.map V.ref++[V.ref p]))) ps (Dk i []):=hro.mono gr.s0 fun q hq=>by
    have hqD:q≠D:=fun z=>(UB.mp nd).1 (z▸hq);obtain⟨o,h1⟩:=hro.some q hq;rw[aj hqD,aj (Qa q hq),gr.s1 q o h1,h1]
   have app:∀{H0 H:Hp} {ps:List Addr} {rs:List (List Dat)} {p:Addr},aW H0 H ps rs->H p=some (.lst [])->aW H0 H (ps++[p]) (rs++[[]]):=by
    intro H0 H ps rs p h1 h2
    induction ps generalizing rs with
    |nil=>cases rs with
     |nil=>exact⟨⟨[],h2,.nil⟩,trivial⟩
     |cons _ _=>exact h1.elim
    |cons q ps ih=>cases rs with
     |nil=>exact h1.elim
     |cons r rs=>exact⟨h1.1,ih h1.2⟩
   have:=app base (p:=p) (by rw[aj hpD,ak]);rw[List.replicate_succ'];exact this
  ·exact((sp.trans t2.stp fun a z=>.inl (ho a z)).aside ((sp.trans t2.stp fun a z=>.inl (ho a z)).gone hp)).aside hD
  ·exact fun j hj=>(k3 j fun z=>VH.mpr (hl j z) hj).trans (hσ j hj)
  ·exact fun a z=>ho a (o3 a z)
 ·have e':i=ds.length:=by lia
  subst e';rw[V5]at ec;cases ec;refine .inl ⟨js _ (Nat.le_refl _),k H0c H' ps ?_ sp ?_ hDl n0 nd hps hro⟩
  all_goals
   have xM:σ.length<=ρ2.length:=by rw[<- sc.len];refine VH.mp fun z=>?_;have q:=hσ σ'.length z;rw[Uk (Nat.le_refl _),Tv z]at q;cases q
   have tk:∀{j:Nat} {c:Dm.Cell},(ρ2.take ρ1.length)[j]?=some c->j<σ.length/\ρ2[j]?=some c:=fun {j c} h=>by
    have hj:j<ρ1.length:=by
     have:=(Tj.mp h).1;rw[UD]at this
     lia
    rw[U3 hj]at h;exact⟨by rw[st1.len];exact hj,h⟩
  ·refine⟨sc.same,?_,fun j d h=>?_,fun j d h=>?_,fun j j' d d' a h1 h2 h3 h4=>?_⟩
   ·rw[UD,<- st1.len];lia
   ·obtain⟨hj,h⟩:=tk h;obtain⟨v,q,r⟩:=sc.sh j d h;exact⟨v,(hσ j hj).symm.trans q,r⟩
   ·obtain⟨hj,h⟩:=tk h;obtain⟨v,q,r⟩:=sc.ow j d h;exact⟨v,(hσ j hj).symm.trans q,r⟩
   ·obtain⟨hj,h1⟩:=tk h1;obtain⟨hj',h2⟩:=tk h2;exact sc.dis j j' d d' a h1 h2 ((hσ j hj).trans h3) ((hσ j' hj').trans h4)
  ·intro a ⟨j,d,h1,h2⟩;obtain⟨hj,h1⟩:=tk h1;exact ho a ⟨j,d,h1,(hσ j hj).trans h2⟩
theorem qF{z:Dm.Out}(q:Dm.uN j fi own bd Sz ρ=some z):∃ds ρ1 ρ2 ρ3 r3,j≠0/\fi ρ=some (ds,ρ1)/\ds.length<=Dm.SZ/\Dm.nMk bd ds (ρ1++Dk own .un)=some ρ2 /\
  Sz ((ρ2.take ρ1.length).set j .un) (Dk ds.length [])=some (ρ3,r3)/\z=.nx (ρ3.set j (.ow (.lst (r3.map .lst)))):=by
 unfold Dm.uN at q;split at q
 ·cases q
 rename_i hj0;split at q
 ·cases q
 rename_i ds ρ1 e1;split at q
 case isFalse=>cases q
 rename_i hsz;split at q
 ·cases q
 rename_i ρ2 e2;split at q
 ·cases q
 rename_i ρ3 r3 e3;cases q;exact⟨ds,ρ1,ρ2,ρ3,r3,hj0,e1,hsz,e2,e3,rfl⟩
theorem G9{s u:FS}{o:Dm.Out}(hs:∀z,s ρ=some z->∃ρ',z=.nx ρ')(e:Dm.aB s u ρ=some o):∃ρ1,s ρ=some (.nx ρ1)/\u ρ1=some o:=by
 cases q:s ρ with
 |none=>unfold Dm.aB at e;rw[q]at e;cases e
 |some z=>obtain⟨ρ1,rfl⟩:=hs z q;unfold Dm.aB at e;rw[q]at e;exact⟨ρ1,rfl,e⟩
theorem Mw{H:Hp}{D:Ends}{gs:FS}(hb:BD is g bd)(hl:∀i∈is,σ.length<=i)(hj:j<σ.length)(h:tDS (Dm.aB (Dm.uN j fi own bd Sz) gs) D σ H) :
  zX (wI (tLC (tDI fi) own g Gf (FZ rE)) (jB j)) (zX (tDN j Sz) (tDS gs)) D σ H:=by
 obtain⟨H0,ρ,o,st,e,k⟩:=h;obtain⟨ρ9,e9,e⟩:=G9 (fun z q=>by obtain⟨_,_,_,_,_,_,_,_,_,_,z⟩:=qF q;exact⟨_,z⟩) e;obtain⟨ds,ρ1,ρ2,ρ3,r3,hj0,e1,hsz,e2,e3,z9⟩:=qF e9;cases z9;refine⟨H0,ρ,ds,ρ1,st,e1,fun J H00 Hb t1 jw L hL=>C2 (Q:=fun x H1=>jB j x σ H1 (zX (tDN j Sz) (tDS gs) D)) hb hl t1.st jw hsz e2 L hL fun H0' H' ps st' sp' ho' hDl n0 nd hps hro=>?_⟩;have nL:¬ao σ ρ1 L:=t1.st.bZ hL;have om:∀a,ao (σ.set j (some (.ref L))) ((ρ2.take ρ1.length).set j .un) a->ao σ (ρ2.take ρ1.length) a:=fun a ⟨i,d,h1,h2⟩=>by
  rcases aQ h1 with⟨_,z⟩ | ⟨hij,h1⟩
  ·cases z
  ·rw[gc (Ue hij)]at h2;exact⟨i,d,h1,h2⟩
 have st2:ay H0' H' (σ.set j (some (.ref L))) ((ρ2.take ρ1.length).set j .un):={
  same:=st'.same
  len:=by rw[Ug,Ug];exact st'.len
  sh:=fun i d h=>by
   rcases aQ h with⟨_,z⟩ | ⟨hij,h⟩
   ·cases z
   ·obtain⟨v,q,r⟩:=st'.sh i d h;exact⟨v,by rw[gc (Ue hij)];exact q,r⟩
  ow:=fun i d h=>by
   rcases aQ h with⟨_,z⟩ | ⟨hij,h⟩
   ·cases z
   ·obtain⟨v,q,r⟩:=st'.ow i d h;exact⟨v,by rw[gc (Ue hij)];exact q,r⟩
  dis:=fun i i' d d' a h1 h2 h3 h4=>by
   rcases aQ h1 with⟨_,z⟩ | ⟨q1,h1⟩
   ·cases z
   rcases aQ h2 with⟨_,z⟩ | ⟨q2,h2⟩
   ·cases z
   rw[gc (Ue q1)]at h3;rw[gc (Ue q2)]at h4;exact st'.dis i i' d d' a h1 h2 h3 h4 }
 have sp:Stp (ao σ ρ) H0 H H0' H':=t1.stp.trans sp' fun a z=>.inl (t1.own a z);have n:NS j σ ρ H0 H (σ.set j (some (.ref L))) ((ρ2.take ρ1.length).set j .un) H0' H' (Dk ds.length []):=
  ⟨st2,sp,fun a z=>.inl (t1.own a (ho' a (om a z))),gc hj0,L,ps,TR hj,t1.stp.gone hL,n0,fun z=>nL (ho' L (om L z)),hDl,nd,fun p hp=>⟨t1.stp.gone (hps p hp).1,(hps p hp).2,fun z=>t1.st.bZ (hps p hp).1 (ho' p (om p z))⟩,hro⟩
 refine⟨σ,ρ,H0,H,H0',_,_,ρ3,r3,n,e3,fun σ4 H4 Hd n4 _=>?_⟩;obtain⟨H5,t5⟩:=n4.done;exact⟨H5,_,o,t5.st,e,k.pre t5⟩
noncomputable abbrev DN(X:Cx)(j:Nat)(st:Stmt)(f:Dm.FN):Prop:=PS X st (tDN j f)
noncomputable abbrev DNs(X:Cx)(j:Nat)(st:List Stmt)(f:Dm.FN):Prop:=PSs X st (tDN j f)
end
section
variable{X:Cx}{st:Stmt}{Du:List Stmt}{fs gs:Dm.FN}{e c:Expr}{f:FE}{pos:Pos}{j:Nat}
section
variable{is:List Nat}{fi:Dm.FI}{bd:Dm.FB}
theorem Qc:DNs X j [] Dm.nNx:=PSs.weak ym fun _ _ _=>P8
theorem Mx(h1:DN X j st fs)(h2:DNs X j Du gs):DNs X j (st::Du) (Dm.G7 fs gs):=PSs.weak (jz h1 h2) fun _ _ _=>Mt
theorem Jq(h1:DN X j st fs):DNs X j [st] fs:=yo h1
theorem Sk{t:FT}{x y:List Stmt}(ht:DT X c t)(ha:DNs X j x fs)(hb:DNs X j y gs):DN X j (.If c x y pos) (Dm.nIf t fs gs):=PS.weak (Bp ht ha hb) fun _ _ _=>P9
theorem Qe{tg it:Expr}{body:List Stmt}(hp:PassesOwn (model X.prog X.w) X.A X.env X.xe)(hc:X.calm=true)(hi:DI X tg it fi)(hg:TG' X tg is bd)(hb:DNs X j body fs)(hj:decide (j∈is)=false:=by rfl)
  (hs:∀x,foldedSetIterable it X.env x=pure x:=by intro _;rfl):DN X j (.For tg it body [] pos) (Dm.G8 fi bd fs):=by
 obtain⟨g,h1,h2⟩:=hg.ex;exact PS.weak (BA hp hc hi h1 hb hs) fun _ _ _=>Mu h2 (of_decide_eq_false hj)
theorem Jr{x:Str}{i:Expr}{fi:FE}{px sp ap cp:Pos}(hi':DE X i fi)(he:DE X e f)(hi:X.N[j]?=some x:=by rfl)(hv:Vis X.env.scope x:=by trivial)(hd:(x == ("__debug__" : Str))=false:=by decide)
  (MZ:(x == ("__classdict__" : Str))=false:=by decide) (Dy:rG i:=by intro _ _;rfl) (R1:attributeBase (.Subscript (.Name x px) i sp) "append" X.env (eval (.Subscript (.Name x px) i sp) X.env)=eval (.Subscript (.Name x px) i sp) X.env:=by rfl)
  (hfew:((backTo cp (starEach [e] X.env)).all (fun x=>!x.1)&&(backToKw cp (keywordEach [] X.env)).all (fun x=>x.1.isSome)
   && decide ([e].length+([]:List Keyword).length+(if ([]:List Keyword).isEmpty then 0 else 1)<30))=true:=by rfl)
  (QK:(ap.endLine == cp.line)=true:=by rfl) (hs:starEach [e] X.env=(false,eval e X.env)::starEach [] X.env:=by rfl) (JC:(backTo cp (starEach [] X.env)).any (·.1)=false:=by rfl)
  (hsw:swapsWith (.Call (.Attribute (.Subscript (.Name x px) i sp) "append" ap) [e] [] cp) none pos.line X.env=pure false:=by rfl) :
  DN X j (.Expr (.Call (.Attribute (.Subscript (.Name x px) i sp) "append" ap) [e] [] cp) pos) (Dm.C0 fi f):=
 PS.weak (jA (yw Vu PySem.F.slot_list_append PySem.F.type_list_append kB (IQ yu (fN hi hv hd MZ) hi' Dy) (aa he af hs) R1 hfew QK hs JC) hsw) fun _ _ _=>Mv
theorem My(j:Nat)(nm own:List Str){y:Str}{py Sl jY:Pos}{tg iter:Expr}{scope:Scope}{Sz:Dm.FN}{gs:FS}{lst:Stmt}(hN:X.N.Nodup)(hg:TGc X nm scope own tg is bd)(hi:DI X tg iter fi)(hlp:DN X j lst Sz)(hre:DSs X Du gs)
  (hc:X.calm=true:=by rfl) (hk:scope.kind=.function:=by rfl) (hS:m6 X.env.scope X.N nm scope=true:=by rfl) (hl:(is.all fun i=>decide (X.N.length<=i))=true:=by rfl) (hj:X.N[j]?=some y:=by rfl) (hy:Loc X.env.scope y:=by trivial)
  (hsw:swapsWith (.ListComp (.List [] jY) [⟨tg,iter,[],0⟩] scope pos) (some (.Name y py)) Sl.line X.env=pure true:=by rfl) (hs:∀y,foldedSetIterable iter X.env y=pure y:=by intro _;rfl)
  (hf:X.fn y=true\/X.env.scope.names.lookup y=some .local:=by trivial) :
  DSs X (.Assign [.Name y py] (.ListComp (.List [] jY) [⟨tg,iter,[],0⟩] scope pos) Sl::lst::Du) (Dm.aB (Dm.uN j fi own.length bd Sz) gs):=by
 obtain⟨g,h1,h2⟩:=hg.ex;have h:=jz (fS hN hj hy hc (dg.of hS hk) hi h1 (fun cl C s H fp=>yE) (fun cl C s H fp=>BH (pos:=jY) eY) hsw hs hf) (jz hlp hre);intro uV s σ H D I q;exact h uV s σ H D I (Mw h2 (fun i hi=>by rw[I.len];exact ur hl i hi) (by rw[I.len];exact(Tj.mp hj).1) q)
end
end
theorem za{H0:Hp}(i:Int):∀{kvs:List (Key×V)} {ks:List Int} {ds:List Dat},kvs.map (·.1)=ks.map T4->aD H0 (kvs.map (·.2)) ds ->
  (k_ kvs (T4 i)).map (·.1)=(Dm.kM ks ds i).map T4/\aD H0 ((k_ kvs (T4 i)).map (·.2)) (Dm.kN ks ds i)
 |[],[],ds,_,r=>by cases r;exact⟨rfl,.nil⟩
 |[],_::_,_,e,_=>by cases e
 |_::_,[],_,e,_=>by cases e
 |(k,v)::kvs,k'::ks,ds,e,r=>by
  rw[PU,PU]at e;injection e with e1 e2
  cases r with
  |cons h t=>
   obtain⟨i1,i2⟩:=za i e2 t;unfold k_ at i1 i2 ⊢;dsimp only at e1;subst e1;by_cases q:k'=i
   ·subst q;rw[U7 (by simp),Dm.kM,if_pos rfl,Dm.kN,if_pos rfl];exact⟨i1,i2⟩
   ·have q':¬(T4 k':Key)=T4 i:=rW q;rw[U8 (by simpa using q'),Dm.kM,if_neg q,Dm.kN,if_neg q];exact⟨by rw[PU,PU,i1],by rw[PU];exact .cons h i2⟩
section
variable{σ:L2.St}{H:Hp}{Q:VK}
theorem Mz{i:Nat}{f:FE}(h:tD (Dm.uO i f) σ H Q):BV (rA i) (tD f) σ H Q:=by
 obtain⟨H0,ρ,x,ρ',st,e,k⟩:=h;unfold Dm.uO at e;split at e
 case h_2=>cases e
 rename_i ks0 vs0 h0;split at e
 case h_2=>cases e
 rename_i m ρ1 e1;split at e
 case h_2=>cases e
 rename_i ks vs h1;split at e
 case h_2=>cases e
 rename_i d hl;cases e;obtain⟨a0,q0,n0,LX,y0,_⟩:=st.ow i _ h0;refine⟨_,q0,a0,rfl,.inl ⟨LX,.inl y0⟩,H0,ρ,_,ρ1,st,e1,fun u H1 Hb t1 r1=>?_⟩;have hu:=Rep.isInt r1;subst hu;obtain⟨a,q,n,w⟩:=t1.st.ow i _ h1;rw[q0]at q;cases q;obtain⟨kvs,y,ek,rs⟩:=w;rcases gy m ek rs with⟨d',v,l1,l2,r⟩ | ⟨l1,_⟩
 ·rw[hl]at l1;cases l1;obtain⟨p1,p2⟩:=za m ek rs;have ow:ao σ ρ1 a0:=⟨i,_,h1,q0⟩
  have hil:i<ρ1.length:=(Tj.mp h1).1;refine⟨kvs,T4 m,v,y,rfl,l2,k v H1 _ ⟨t1.st.write h1 q0 ⟨_,ak,p1,p2⟩,t1.stp.trans (Stp.write ow) fun b z=>.inl (t1.own b z),fun b z=>t1.own b (cz h1 z),fun j z=>trivial⟩ r⟩
 ·rw[hl]at l1;cases l1
end
section
variable{vs:List Dat}{ρ ρ':Dm.Env}{ks:List Int}{d:Dat}{x:Dm.Val}{H H':Hp}{i:Nat}{X:Cx}
theorem xw:cy X (.type "dict") (fun xs H Q=>∃a kvs,xs=[.ref a]/\H a=some (.dK kvs)/\∀p,H p=none->Q (.ref p) (upd H p (.dK kvs))):=by intro uV s σ H xs us Q I r h;obtain⟨a,kvs,rfl,ha,k⟩:=h;obtain⟨u,rfl,rx⟩:=vals1 r;cases rx;exact BY I (.inl ha) fun p s' hp I'=>⟨.ref p,_,I',rfl,k p hp⟩
theorem G_:CallD (fun xs H Q=>∃a kvs,xs=[.ref a]/\H a=some (.dK kvs)/\∀p,H p=none->Q (.ref p) (upd H p (.dK kvs))) Dm.y_:=by
 intro H0 H vs ds z Q s rs e k;unfold Dm.y_ at e;split at e
 ·cases e;cases rs with
  |cons r rr=>cases rr;obtain⟨a,kvs,rfl,ha,ek,rs⟩:=dM s r;refine⟨a,kvs,rfl,ha,fun p hp=>k _ _ _ (aJ.jJ s hp) ⟨p,rfl,hp,s.free hp,kvs,ak,ek,rs⟩⟩
 ·cases e
theorem nv:∀(its:List Value) (ns:List Int),its.length=ns.length->(∀(i:Nat) (v:Value),its[i]?=some v->∃n,ns[i]?=some n/\∃t,v=Value.int n t)->IntsAre its ns
 |[],[],_,_=>.nil
 |[],_::_,h,_=>by cases h
 |_::_,[],h,_=>by cases h
 |v::its,n::ns,h,k=>by
  obtain⟨m,h1,t,h2⟩:=k 0 v rfl;simp at h1;subst h1;subst h2;exact .cons n t (nv its ns (by simpa using h) fun i v e=>by obtain⟨m,q1,q2⟩:=k (i+1) v (by simpa using e);exact⟨m,by simpa using q1,q2⟩)
theorem zb:∀{kvs:List (Key×V)} {vs:List (Key×Value)},KV kvs vs->vs.map (·.1)=kvs.map (·.1)
 |_,_,.nil=>rfl
 |_,_,.cons h t=>by rw[PU,PU,zb t,h.1]
theorem kP:∀{its:List Value} {ns:List Int},IntsAre its ns->Vals (ns.map V.int) its
 |_,_,.nil=>.nil
 |_,_,.cons n t h=>.cons ⟨t,rfl⟩ (kP h)
def C3:List V->Hp->VK->Prop:=fun xs H Q=>∃(p:Addr) (kvs:List (Key×V)) (ns:List Int),xs=[.ref p]/\H p=some (.dK kvs)/\kvs.map (·.1)=ns.map T4/\ns.length<=63 /\
 ∀(ms:List Int) (l:Addr),ms.Perm ns->ms.Pairwise (·<=·)->H l=none->Q (.ref l) (upd H l (.lst (ms.map V.int)))
theorem xx(hc:X.calm=true):cy X (.builtin "sorted") C3:=by
 intro uV s σ H xs us Q I r h;obtain⟨p,kvs,ns,rfl,hq,ek,hl,k⟩:=h;obtain⟨u,rfl,rx⟩:=vals1 r;cases rx;obtain⟨z,hd,vs,rel,dd⟩:=yx I.hok hq;obtain⟨ep,hat⟩:=dd.dictAt;have xM:vs.length=ns.length:=by
  rw[<- rel.length];have:=congrArg List.length ek
  simpa using this
 have hns:vs.length<=sizeLine:=by rw[<- rel.length];exact z
 refine Calls.call_function_entry kind_sorted plain_sorted entry_sorted (args_sorted1 _) ?_;unfold Builtin.«sorted»;refine wpAny_bind (m:=checkCount "sorted" 1 1 _) (wpAny_pure ?_);refine wpAny_bind (PySem.W.kdu_collect (A:=X.A.in1) (PySem.W.kdl_dict (knd:=aY X.prog X.w) (kvs:=vs) (ep:=ep) hd) (I.ok.hd hc) hat hns fun h' tk DZ hk hacc=>?_);have hsz:DZ.toList.length=ns.length:=by rw[TH,hacc.1,xM]
 have hI:IntsAre DZ.toList ns:=nv _ _ hsz fun i v e=>by
  obtain⟨ky,x,h1,h2⟩:=hacc.2 i v (by rw[<- Um];exact e);have hk1:(vs.map (·.1))[i]?=some ky:=by rw[TM,h1];rfl
  rw[zb rel,ek,TM]at hk1;cases q:ns[i]? with
  |none=>rw[q]at hk1;cases hk1
  |some n=>rw[q]at hk1;cases hk1;exact⟨n,rfl,(Value.isInt_shape (k:=n) (v:=v) h2)⟩
 have hn:DZ.toList.length<=63:=by rw[hsz];exact hl
 refine wpAny_bind (wpAny_newList ?_ (Nat.le_trans hn (by decide)));have hL0:(h'.push (seqObj "list" DZ.toList.toArray 0)).get? h'.objs.size=some (seqObj "list" DZ.toList.toArray 0):=TQ _ rfl;have I1:=I.kept (t':=tk) hk;refine wpAny_bind (wpAny_holding (wpAny_call_entry (s:={ s with heap:=h'.push (seqObj "list" DZ.toList.toArray 0),toks:=tk }) slot_list_sort ⟨_,hL0,rfl⟩ entry_list_sort (list_sort_tree hL0 hI (by lia) fun out ms a1 a2 a3=>⟨_,rfl,?_⟩) (args_list_sort _)));obtain⟨c,hc'⟩:=sortedHeap_at (out:=out) hL0;have hz2:(ms.map V.int).length<=sizeLine:=by rw[Dp,a2.length_eq];exact Nat.le_trans hl (by decide)
 refine wpAny_pure ⟨_,rfl,.ref h'.objs.size,_,I1.laid (t':=tk) (fun b o e=>?_) (Nat.le_refl _) (show aR X.prog X.w _ _ _ (.lst (ms.map V.int)) from ⟨hz2,out.toList,c,kP a1,by simpa using hc'⟩),rfl,k ms _ a2 a3 (I1.hok.fresh (Nat.le_refl _))⟩;have lt:=Tn e;rw[sortedHeap_old (Tu lt) (by rw[size_push'];exact UH lt)];exact gV _ e
theorem C4:CallD C3 Dm.sC:=by
 intro H0 H vs ds z Q s rs e k;unfold Dm.sC at e;split at e
 ·rename_i ks vs';split at e
  case isFalse=>cases e
  rename_i hl;cases e;cases rs with
  |cons r rr=>
   cases rr;obtain⟨a,kvs,rfl,ha,ek,rs⟩:=dM s r;refine⟨a,kvs,ks,rfl,ha,ek,hl,fun ms l pm so hp=>?_⟩;have em:ms=Dm.cB (fun a b=>decide (a<b)) ks:=Dm.lD (lt:=fun a b=>decide (a<b)) (fun a b h1 h2=>by simp at h1 h2;lia) (pm.trans (Dm.ck _ ks).symm) (so.imp fun {a b} h=>by simp;lia)
    (Dm.fh (fun a b c h1 h2=>by simp at *;lia) (fun a b h=>by simp at *;lia) ks)
   exact k _ _ _ (aJ.jJ s hp) ⟨l,rfl,hp,s.free hp,_,ak,by rw[<- em];exact qB ms⟩
 ·cases e
theorem MA(e:Dm.tkd ρ x=some (d,ρ')):Dm.tk ρ x=some (d,ρ')\/∃i ks vs,x=.slot i/\ρ[i]?=some (.ow (.dct ks vs))/\d=.dct ks vs/\ρ'=ρ:=by
 cases x with
 |val d'=>exact .inl e
 |new d'=>exact .inl e
 |slot i=>
  unfold Dm.tkd at e;dsimp only at e;split at e
  ·rename_i ks vs h;cases e;exact .inr ⟨i,ks,vs,rfl,h,rfl,rfl⟩
  ·rename_i d' _ h;left;unfold Dm.tk;dsimp only;rw[h];exact e
  ·rename_i d' h;left;unfold Dm.tk;dsimp only;rw[h];exact e
  ·cases e
theorem C5(e:Dm.tkd ρ x=some (d,ρ'))(h:ρ[i]?=some (.ow (.dct ks vs))):ρ'[i]?=some (.ow (.dct ks vs)):=by
 cases x with
 |val d'=>cases e;exact h
 |new d'=>cases e;exact h
 |slot j=>
  unfold Dm.tkd at e;dsimp only at e;split at e
  ·cases e;exact h
  ·rename_i d' hn hj;cases e;by_cases q:j=i
   ·subst q;rw[h]at hj;cases hj;exact absurd rfl (hn ks vs)
   ·rw[gc q];exact h
  ·cases e;exact h
  ·cases e
theorem qG:∀{xs:List Dm.Val} {ρ ρ':Dm.Env} {ds:List Dat},Dm.AQ ρ xs=some (ds,ρ')->ρ[i]?=some (.ow (.dct ks vs))->ρ'[i]?=some (.ow (.dct ks vs))
 |[],_,_,_,e,h=>by cases e;exact h
 |x::xs,ρ,ρ',ds,e,h=>by
  unfold Dm.AQ at e;split at e
  ·cases e
  rename_i d ρ1 e1;split at e
  ·cases e
  rename_i ds' ρ2 e2;cases e;exact qG e2 (C5 e1 h)
def Sm(H0:Hp)(σ:L2.St)(ρ:Dm.Env)(v:V)(d:Dat):Prop:=Rep H0 v d\/∃(i:Nat) (b:Addr) (ks:List Int) (vs:List Dat),d=.dct ks vs/\v=.ref b/\ρ[i]?=some (.ow (.dct ks vs))/\σ[i]?=some (some (.ref b))
inductive uQ(H0:Hp)(σ:L2.St)(ρ:Dm.Env):List V->List Dat->Prop
 |nil:uQ H0 σ ρ [] []
 |cons {v:V} {d:Dat} {vs:List V} {ds:List Dat}:Sm H0 σ ρ v d->uQ H0 σ ρ vs ds->uQ H0 σ ρ (v::vs) (d::ds)
theorem xy{Hs H0s H0 H:Hp}{σ:L2.St}{ρs:Dm.Env}:∀{xs:List Dm.Val} {vs:List V} {ρ ρ':Dm.Env} {ds:List Dat} {H0c:Hp},ESt σ ρs H0s Hs ρ H0c H->av H0 H0c->di Hs H0 H σ ρ vs xs->Dm.AQ ρ xs=some (ds,ρ') ->
  ∃mT,ESt σ ρs H0s Hs ρ' mT H/\av H0c mT/\uQ mT σ ρ' vs ds
 |[],_,ρ,ρ',ds,H0c,t,b,r,e=>by cases r;cases e;exact⟨H0c,t,av.refl _,.nil⟩
 |x::xs,_,ρ,ρ',ds,H0c,t,b,r,e=>by
  cases r with
  |cons h r=>
   unfold Dm.AQ at e;split at e
   ·cases e
   ·rename_i d ρ1 e1;split at e
    ·cases e
    ·rename_i ds' ρ2 e2;cases e;rcases MA e1 with e1' | ⟨i,ks,vs,rfl,hi,rfl,rfl⟩
     ·obtain⟨H1,t1,b1,r1,o1,d1⟩:=take1 t b h e1';obtain⟨H2,t2,b2,r2⟩:=xy t1 (b.trans b1) (r.rho o1 d1) e2;exact⟨H2,t2,b1.trans b2,.cons (.inl (r1.mono b2)) r2⟩
     ·obtain⟨H2,t2,b2,r2⟩:=xy t b r e2;obtain⟨q,_⟩:=h;obtain⟨a,z,_⟩:=t.st.ow i _ hi;rw[q]at z;cases z;exact⟨H2,t2,b2,.cons (.inr ⟨i,a,ks,vs,rfl,rfl,qG e2 hi,q⟩) r2⟩
mutual
theorem Rep.noD(hk:∀a o,H a=some o->H' a=some o\/∃kvs,o=.dK kvs):∀{v:V} {d:Dat},Rep H v d->Dm.fX d=true->Rep H' v d
 |_,_,.non,_=>.non
 |_,_,.bl b,_=>.bl b
 |_,_,.int i,_=>.int i
 |_,_,.str x,_=>.str x
 | _,_,.tup h r,n=>.tup (by
   rcases hk _ _ h with z | ⟨_,z⟩
   ·exact z
   ·cases z) (aD.noD hk r (by unfold Dm.fX at n;exact n))
 | _,_,.lst h r,n=>.lst (by
   rcases h with h | ⟨o,h⟩
   ·rcases hk _ _ h with z | ⟨_,z⟩
    ·exact .inl z
    ·cases z
   ·rcases hk _ _ h with z | ⟨_,z⟩
    ·exact .inr ⟨o,z⟩
    ·cases z) (aD.noD hk r (by unfold Dm.fX at n;exact n))
 |_,_,.dct _ _ _,n=>by unfold Dm.fX at n;cases n
 |_,_,.exc _,n=>by unfold Dm.fX at n;cases n
 |_,_,.fn a,_=>.fn a
theorem aD.noD(hk:∀a o,H a=some o->H' a=some o\/∃kvs,o=.dK kvs):∀{vs:List V} {ds:List Dat},aD H vs ds->Dm.nu ds=true->aD H' vs ds
 |_,_,.nil,_=>.nil
 |_,_,.cons h r,n=>by unfold Dm.nu at n;rw[TN]at n;exact .cons (Rep.noD hk h n.1) (aD.noD hk r n.2)
end
end
open Classical in
theorem C6{σ:L2.St}{H:Hp}{Q:VK}{f:List Dat->Option RV}{fs:List FE}{E:XK}(h:tD (Dm.eFd f fs) σ H Q):qe (spD f) [] E (tDA fs) σ H Q:=by
 obtain⟨H0,ρ,x,ρ',st,e,k⟩:=h;unfold Dm.eFd at e;split at e
 ·cases e
 rename_i xs ρ1 e1;split at e
 ·cases e
 rename_i ds ρ2 e2;split at e
 ·cases e
 rename_i z fz;split at e
 case isFalse=>cases e
 rename_i hno;injection e with e
 injection e with ea eb
 subst ea;subst eb;refine⟨H0,ρ,xs,ρ1,st,e1,fun vs H1 Hb t1 r1=>?_⟩;dsimp only;rw[Uc];obtain⟨H2,t2,b2,r2⟩:=xy t1 (av.refl _) r1 e2
 let B:Addr->Prop:=fun b=>∃(i:Nat) (ks:List Int) (vs:List Dat),ρ2[i]?=some (.ow (.dct ks vs))/\σ[i]?=some (some (.ref b))
 have hB:∀b,B b->H2 b=none/\∃kvs,Hb b=some (.dK kvs):=fun b ⟨i,ks,vs,h1,h2⟩=>by obtain⟨a,q,n,kvs,w,_⟩:=t2.st.ow i _ h1;rw[h2]at q;cases q;exact⟨n,kvs,w⟩
 let H2':Hp:=fun b=>if B b then Hb b else H2 b
 have in':∀b,B b->H2' b=Hb b:=fun b h=>if_pos h;have out':∀b,¬B b->H2' b=H2 b:=fun b h=>if_neg h;have s2:av H2 H2':=fun b o e=>by
  by_cases q:B b
  ·rw[(hB b q).1]at e;cases e
  ·rw[out' b q];exact e
 have s2b:av H2' Hb:=fun b o e=>by
  by_cases q:B b
  ·rw[in' b q]at e;exact e
  ·rw[out' b q]at e;exact t2.st.same _ _ e
 have rr:∀{vs:List V} {ds:List Dat},uQ H2 σ ρ2 vs ds->aD H2' vs ds:=fun {vs ds} r=>by
  induction r with
  |nil=>exact .nil
  |cons h _ ih=>
   refine .cons ?_ ih;rcases h with h | ⟨i,b,ks,vs',rfl,rfl,h1,h2⟩
   ·exact h.mono s2
   ·obtain⟨a,q,n,kvs,w,ek,rs⟩:=t2.st.ow i _ h1;rw[h2]at q;cases q;exact .dct (by rw[in' _ ⟨i,ks,vs',h1,h2⟩];exact w) ek (rs.mono s2)
 refine⟨H2',ds,z,s2b,rr r2,fz,fun w H3 Hd g3 r3=>?_⟩
 let H3':Hp:=fun b=>if B b then none else H3 b
 have in3:∀b,B b->H3' b=none:=fun b h=>if_pos h;have C7:∀b,¬B b->H3' b=H3 b:=fun b h=>if_neg h;have gr:aJ H2 Hb H3' Hd:=⟨fun b o e=>by
   by_cases q:B b
   ·rw[(hB b q).1]at e;cases e
   ·rw[C7 b q];exact g3.s0 _ _ (s2 _ _ e),g3.s1,fun b o e=>by
   by_cases q:B b
   ·rw[in3 b q]at e;cases e
   ·rw[C7 b q]at e;rcases g3.s2 b o e with y | y
    ·exact .inl y
    ·rw[out' b q]at y;exact .inr y,fun b o e=>by
   by_cases q:B b
   ·rw[in3 b q]at e;cases e
   ·rw[C7 b q]at e;exact g3.s3 _ _ e⟩
 have hk:∀a o,H3 a=some o->H3' a=some o\/∃kvs,o=.dK kvs:=fun a o e=>by
  by_cases q:B a
  ·obtain⟨_,kvs,y⟩:=hB a q;have:=g3.s0 a _ ((in' a q).trans y);rw[e]at this;exact .inr ⟨kvs,Option.some.inj this⟩
  ·exact .inl (by rw[C7 a q];exact e)
 have r3':rN Hb H3' Hd w z:=by
  cases z with
  |val d=>exact Rep.noD hk r3 hno
  |new d=>
   obtain⟨a,ea,n,n0,w'⟩:=r3;refine⟨a,ea,n,?_,?_⟩
   ·by_cases q:B a
    ·exact in3 a q
    ·rw[C7 a q];exact n0
   ·cases d with
    |lst ds'=>obtain⟨ys,y1,y2⟩:=w';exact⟨ys,y1,aD.noD hk y2 (by have:Dm.fX (.lst ds')=true:=hno;unfold Dm.fX at this;exact this)⟩
    |dct ks ds'=>have:Dm.fX (.dct ks ds')=true:=hno;unfold Dm.fX at this;cases this
    |_=>exact w'.elim
 exact k w H3' Hd (t2.trans (.grow t2.st gr)) ((r3'.toV t2.st).early fun a n=>t2.stp.gone n)
section
variable{X:Cx}{e b:Expr}{es:List Expr}{fs:List FE}{fb:FE}{p pos:Pos}
theorem ny{k:Nat}{F:Addr}{fd:FuncData}{ps:List Str}{g:List Dat->Option RV}{x:Str}(G:aK X.prog X.w X.K X.mg X.base CX0 k F fd ps (spD g))(hr:aT k X.A)(hg:Gl X x)(hm:X.mg x=some (.ref F))(hk:Ul X.K (.ref F)=true)(hb:Binds X.K fd ps [])
  (ha:DA X (e::es) fs) (MO:(x == ("__debug__" : Str))=false:=by decide) (he:starEach (e::es) X.env=(false,eval e X.env)::starEach es X.env:=by rfl) (Dy:(backTo pos (starEach es X.env)).any (·.1)=false:=by rfl) :
  DE X (.Call (.Name x p) (e::es) [] pos) (Dm.eFd g fs):=PE.weak (gw G hr hg hm hk hb .nil (qm (X:=X)) ha MO he Dy) fun _ _ _=>C6
theorem MB(hg:Gl X "dict")(hm:X.mg "dict" = none)(ha:DA X [e] fs)(he:starEach [e] X.env=[(false,eval e X.env)]:=by rfl)(Dy:(backTo pos (starEach [] X.env)).any (·.1)=false:=by rfl):DE X (.Call (.Name "dict" p) [e] [] pos) (Dm.eB Dm.y_ fs):=Gv xw G_ (by rfl) hg hm ha (he:=he) (Dy:=Dy)
theorem Hg(hc:X.calm=true)(hg:Gl X "sorted")(hm:X.mg "sorted" = none)(ha:DA X [e] fs)(he:starEach [e] X.env=[(false,eval e X.env)]:=by rfl)(Dy:(backTo pos (starEach [] X.env)).any (·.1)=false:=by rfl):DE X (.Call (.Name "sorted" p) [e] [] pos) (Dm.eB Dm.sC fs):=wZ (xx hc) C4 (by rfl) hg hm ha (he:=he) (Dy:=Dy)
theorem C8(i:Nat){x:Str}{px Qp cpos:Pos}(hb:DE X b fb)(hi:X.N[i]?=some x:=by rfl)(hv:Vis X.env.scope x:=by trivial)(hd:(x == ("__debug__" : Str))=false:=by decide)
  (MZ:(x == ("__classdict__" : Str))=false:=by decide) (m:M1 X (.Name x px) "pop" Qp b cpos:=by exact⟨rfl,rfl,rfl,rfl⟩):DE X (.Call (.Attribute (.Name x px) "pop" Qp) [b] [] cpos) (Dm.uO i fb):=PE.weak (BX (fN hi hv hd MZ) hb m) fun _ _ _=>Mz
end
section
variable{X:Cx}{a b c e:Expr}{fa fb fc:FE}{p pos:Pos}
theorem bits_le{i:Int}(h:i.natAbs.log2<1000000):Wj i<=2 ^ 20:=by
 have:Wj i<=i.natAbs.log2+1:=by
  unfold Wj
  first | lia | (split<;>lia) | simp
 lia
def Js(i j:Int):Prop:=i.natAbs.log2<1000000/\j.natAbs.log2<1000000
theorem Hh:OpR X (binaryOp .Mult) (rI Js fun i j=>.int (i*j)):=opI fun _ _ _ _ _ _ _ hc q=>mul_int q (.of_bits (bits_le hc.1) (bits_le hc.2))
theorem Hi:OpD (rI Js fun i j=>.int (i*j)) Dm.jX:=by
 intro H0 H x y dx dy z Q s rx ry e k;unfold Dm.jX at e;split at e
 ·split at e
  case isFalse=>cases e
  rename_i hb;cases e;cases aC rx;cases aC ry;exact⟨_,_,rfl,rfl,hb,k _ H0 H (aJ.refl s) (.int _)⟩
 ·cases e
theorem sF(ha:DE X a fa)(hb:DE X b fb):DE X (.BinOp a .Mult b pos) (Dm.e2 Dm.jX fa fb):=uh Hh Hi ha hb
end
noncomputable def Its(lo k:Int)(n:Nat):It:=⟨fun i _=>i<n,fun i H x H'=>H'=H/\x=.int (lo+(i:Nat)*k),fun i _=>n<=i⟩
theorem xA{P:Program}{w:World}{K:eg}{tg:Expr}(it:Addr)(lo k:Int)(n:Nat):Turn P w K tg (Its lo k n) [it] it (fun i h=>IsRangeIter h it (lo+(i:Nat)*k) ((n:Int)-(i:Nat)) k) where
 mem:=by simp
 obj:=fun i h st b hb=>by
  have e:b=it:=by simpa using hb
  subst e;exact ⟨_,st,fun v z=>by have z':W3 _=Wq v:=z;cases z'⟩
 keep:=fun i h h' st k=>k it (by simp) _ st
 item:=by intro X hP hw hK hc i uV s σ H E I hf st hg;subst hP hw hK;obtain⟨f0,f1,f2,f3,f4,f5⟩:=hf it (by simp);have W:=Walks.range (prog:=X.prog) (w:=X.w) (I.ok.hd hc) it lo k n;refine W.item i s _ _ hg st fun v h' tk hv st' kk=>?_;obtain⟨t,rfl⟩:=hv;have I1:Inv X uV σ H { s with heap:=h',toks:=tk }:=I.turned (fun b o hb e=>kk b o (by simpa using hb) e) f0 f1 f3 f4 f5;exact⟨_,rfl,tQ (s:={ s with heap:=h',toks:=tk }) (n := "range_iterator") st' rfl rfl (by decide) ⟨.int (lo+(i:Nat)*k),H,I1,⟨t,rfl⟩,⟨rfl,rfl⟩,st',fun b hb=>(hf b hb).1⟩⟩
 done:=by intro X hP hw hK hc i uV s σ H E I hf st hg;subst hP hw hK;obtain⟨f0,f1,f2,f3,f4,f5⟩:=hf it (by simp);exact wpAny_pyNext_range_end (I.ok.hd hc) st (by have:n<=i:=hg;lia) fun h' eb=>⟨rfl,I.turned (t':=s.toks) (fun b o hb e=>eb b o hb e) f0 f1 f3 f4 f5⟩
 self:=fun _ _ _ _ _ st h=>wpAny_pyIter_rangeiter st h
theorem zc{a k:Int}(hk:0<k)(h:0<=a):0<=a / k/\a / k<=a:=⟨Int.ediv_nonneg h (by lia),by
 have:=Int.ediv_mul_le a (b:=k) (by lia);have h2:0<=a / k:=Int.ediv_nonneg h (by lia);have:(a / k)*1<=(a / k)*k:=Int.mul_le_mul_of_nonneg_left (by lia) h2
 lia⟩
theorem jZ(a b k:Int)(hk:0<k):U6 a b k=(Dm.cR a b k:Nat):=by
 unfold U6 Dm.cR;simp only[hk,show (k>0)=True from eq_true hk,if_true];by_cases h:a<b
 ·have:=zc hk (show 0<=b-a-1 by lia);simp only[h,show (a<b)=True from eq_true h,if_true]
  first | lia | (split<;>lia)
 ·simp only[show (a<b)=False from eq_false h,if_false]
  first | lia | (split<;>lia) | simp
theorem C9{a b k:Int}(hk:0<k)(hk':k<=1000)(ha:-(2 ^ 60)<=a)(ha':a<2 ^ 60)(hb:-(2 ^ 60)<=b)(hb':b<2 ^ 60):Builtin.Range.small a b k=true:=by
 unfold Builtin.Range.small;rw[jZ a b k hk];have hs:(Dm.cR a b k:Int)<=2 ^ 61:=by
  unfold Dm.cR;split
  ·have:=zc hk (show 0<=b-a-1 by lia)
   lia
  ·lia
 simp only[Builtin.Range.rangeFitsLong,TN,WX,decide_eq_true_eq,beq_iff_eq,show (k>0)=True from eq_true hk,if_true]
 first | lia | (refine⟨?_,?_⟩<;>lia) | (split<;>lia)
section
variable{X:Cx}{tg:Expr}
def Jt(ta:TA):TI:=fun σ H R=>ta σ H fun vs H1=>∃i j k:Int,vs=[.int i,.int j,.int k]/\(0<k/\k<=1000)/\(-(2 ^ 60)<=i/\i<2 ^ 60/\-(2 ^ 60)<=j/\j<2 ^ 60)/\R (Its i k (Dm.cR i j k)) H1
theorem AS{a b c:Expr}{ta:TA}{p pos:Pos}(hg:Gl X "range")(hm:X.mg "range" = none)(ha:PA X [a,b,c] ta)(hs:starEach [a,b,c] X.env=(false,eval a X.env)::starEach [b,c] X.env:=by rfl)(hs2:(backTo pos (starEach [b,c] X.env)).any (·.1)=false:=by rfl) :
  PI X tg (.Call (.Name "range" p) [a,b,c] [] pos) (Jt ta):=by
 intro uV s σ H R I h;refine Call_ (cN I hg hm boot_range (Ub (thn (ha pos uV s σ H _ I h) fun us s1 ⟨vs,H1,I1,r1,q1⟩=>?_) hs hs2));obtain⟨i,j,k,e,⟨hk,hk'⟩,⟨q1,q2,q3,q4⟩,q⟩:=q1;subst e;cases r1 with
 |cons r rr=>
  cases rr with
  |cons r' rr=>
   cases rr with
   |cons r'' rr=>
   cases rr;obtain⟨t,rfl⟩:=r;obtain⟨t',rfl⟩:=r';obtain⟨t'',rfl⟩:=r'';refine call_range_3 (by simp;lia) ?_ (Or.inl (PyProof.noPylong_small (by lia)));refine wpAny_pyIter_range (IsRange.new ..) (C9 hk hk' q1 q2 q3 q4) ?_;have I2:Inv X uV σ H1 { s1 with heap:=s1.heap.push { cls:=.type "range",data:=.fields #[.int i t,.int j t',.int k t''] },toks:=s1.toks }:=I1.kept fun b o e=>gV _ e;refine ⟨(s1.heap.push { cls:=.type "range",data:=.fields #[.int i t,.int j t',.int k t''] }).objs.size,[(s1.heap.push { cls:=.type "range",data:=.fields #[.int i t,.int j t',.int k t''] }).objs.size],_,_,H1,rfl,
    I2.kept (t':=s1.toks) fun b o e=>gV _ e,xA _ i k (Dm.cR i j k),?_,fun b hb=>?_,q⟩
   ·have e1:i+((0:Nat):Int)*k=i:=by simp
    have e2:((Dm.cR i j k:Nat):Int)-((0:Nat):Int)=U6 i j k:=by rw[jZ i j k hk];lia
    show IsRangeIter _ _ (i+((0:Nat):Int)*k) (((Dm.cR i j k:Nat):Int)-((0:Nat):Int)) k;rw[e1,e2];exact TQ _ rfl
   ·have e:b=(s1.heap.push { cls:=.type "range",data:=.fields #[.int i t,.int j t',.int k t''] }).objs.size:=by simpa using hb
    subst e;exact I2.tP (Nat.le_refl _) (I2.hok.fresh (Nat.le_refl _))
theorem C_{H0:Hp}{lo k:Int}{n:Nat}:JW (Its lo k n) H0 (Dm.iw lo k n):=by
 intro H0' H s0 s1;have el:(Dm.iw lo k n).length=n:=by simp[Dm.iw]
 refine⟨fun i hi=>by rw[el]at hi;exact hi,fun i d e=>?_⟩;have En:i<n:=by have:=(Tj.mp e).1;rw[el]at this;exact this
 have hd:d=.int (lo+(i:Nat)*k):=by unfold Dm.iw at e;rw[TM,U9 En]at e;exact(Option.some.inj e).symm
 refine⟨En,fun x H' y=>?_⟩;obtain⟨rfl,rfl⟩:=y;subst hd;exact⟨H0',aJ.refl s1,.int _⟩
theorem Qf{σ:L2.St}{H:Hp}{R:It->Hp->Prop}{f g c:FE}(h:tDI (Dm.iRs f g c) σ H R):Jt (tDA [f,g,c]) σ H R:=by
 obtain⟨H0,ρ,ys,ρ',st,e,k⟩:=h;unfold Dm.iRs at e;split at e
 ·rename_i i ρ1 e1;split at e
  ·rename_i j ρ2 e2;split at e
   ·rename_i l ρ3 e3;split at e
    ·rename_i hb;cases e;refine⟨H0,ρ,[.val (.int i),.val (.int j),.val (.int l)],_,st,by simp only[Dm.eAs,e1,e2,e3];rfl,fun vs H0' H' t r=>?_⟩;cases r with
     |cons r rr=>
      cases rr with
      |cons r' rr=>
       cases rr with
       |cons r'' rr=>cases rr;cases Rep.isInt r;cases Rep.isInt r';cases Rep.isInt r'';obtain⟨h0,h1,h2,h3,h4⟩:=hb;unfold Dm.BIG at h1 h2 h3 h4;exact⟨i,j,l,rfl,h0,⟨by lia,by lia,by lia,by lia⟩,k _ H0' H' t C_⟩
    ·cases e
   ·cases e
  ·cases e
 ·cases e
theorem Sn{a b c:Expr}{fa fb fc:FE}{p pos:Pos}(hg:Gl X "range")(hm:X.mg "range" = none)(ha:DA X [a,b,c] [fa,fb,fc])(hs:starEach [a,b,c] X.env=(false,eval a X.env)::starEach [b,c] X.env:=by rfl)(hs2:(backTo pos (starEach [b,c] X.env)).any (·.1)=false:=by rfl) :
  DI X tg (.Call (.Name "range" p) [a,b,c] [] pos) (Dm.iRs fa fb fc):=PI.weak (AS hg hm ha hs hs2) fun _ _ _=>Qf
end
theorem qH{Hs H0 H:Hp}{σ:L2.St}{ρ:Dm.Env}:∀{xs:List Dm.Val} {vs:List V} {ds:List Dat},di Hs H0 H σ ρ vs xs->Dm.kO xs=some ds->aD H0 vs ds
 |[],_,_,.nil,e=>by cases e;exact .nil
 |.val d::xs,_,ds,.cons h r,e=>by
  unfold Dm.kO at e;cases q:Dm.kO xs with
  |none=>rw[q]at e;cases e
  |some es=>rw[q]at e;cases e;exact .cons h (qH r q)
 |.new _::_,_,_,_,e=>by cases e
 |.slot _::_,_,_,_,e=>by cases e
theorem Hj{σ:L2.St}{H:Hp}{Q:VK}{f:List Dat->Option (RV×Dat)}{f0:FE}{fs:List FE}{E:XK}(h:tD (Dm.eFn f f0 fs) σ H Q):qe (spM f) [] E (tDA (f0::fs)) σ H Q:=by
 obtain⟨H0,ρ,x,ρ',st,e,k⟩:=h;unfold Dm.eFn at e;split at e
 case h_2=>cases e
 rename_i d xs ρ1 e1;split at e
 ·cases e
 rename_i ds e2;split at e
 ·cases e
 rename_i z d' fz;cases e;refine⟨H0,ρ,_,_,st,e1,fun vs H1 Hb t1 r1=>?_⟩;dsimp only;rw[Uc];cases r1 with
 |cons r0 rr=>
  obtain⟨a,rfl,n,no,n0,w⟩:=r0;obtain⟨oa,ha⟩:=w.some;refine⟨H1,a,_,d,ds,z,d',rfl,t1.st.same,n0,w,qH rr e2,fz,fun v H3 Hd s3 ss n3 w3 r3=>?_⟩;have st3:ay H3 Hd σ ρ':=t1.st.off s3.s0 ss no (fun b o y nb=>s3.s1 b o y nb) fun i d4 b y1 y2=>by
   obtain⟨b',q',nb',w'⟩:=t1.st.ow i d4 y1;rw[y2]at q';cases q';cases y:H3 b with
   |none=>rfl
   |some o=>
    obtain⟨o',z'⟩:=w'.some;rcases s3.s2 b o y with y3 | y3 | y3
    ·rw[y3]at z';cases z'
    ·rw[nb']at y3;cases y3
    ·exact absurd ⟨i,d4,y1,y3▸y2⟩ no
  exact k v H3 Hd ⟨st3,t1.stp.trans s3 fun b y=>.inr (by rw[y];exact n),t1.own,t1.dfn⟩ ((r3.toV t1.st).early fun b y=>t1.stp.gone y)
theorem Hl{X:Cx}{e0:Expr}{es:List Expr}{p pos:Pos}{k:Nat}{F:Addr}{fd:FuncData}{ps:List Str}{g:List Dat->Option (RV×Dat)}{x:Str}{f0:FE}{fs:List FE}(G:aK X.prog X.w X.K X.mg X.base CX0 k F fd ps (spM g))(hr:aT k X.A)(hg:Gl X x)(hm:X.mg x=some (.ref F))(hk:Ul X.K (.ref F)=true)(hb:Binds X.K fd ps [])
  (ha:DA X (e0::es) (f0::fs)) (MO:(x == ("__debug__" : Str))=false:=by decide) (he:starEach (e0::es) X.env=(false,eval e0 X.env)::starEach es X.env:=by rfl) (Dy:(backTo pos (starEach es X.env)).any (·.1)=false:=by rfl) :
  DE X (.Call (.Name x p) (e0::es) [] pos) (Dm.eFn g f0 fs):=PE.weak (gw G hr hg hm hk hb .nil (qm (X:=X)) ha MO he Dy) fun _ _ _=>Hj
open PySem
variable{C:List Value->Prop}{us:List Value}
theorem len0(h:us.length=0)(c:C []):C us:=by rw[List.eq_nil_of_length_eq_zero h];exact c
theorem Dc{n:Nat}{C:List Value->Prop}{us:List Value}(h:us.length=n+1)(c:∀a us,us.length=n->C (a::us)):C us:=by
 cases us with
 |nil=>cases h
 |cons a us=>exact c a us (by simpa using h)
theorem MC(h:us.length=1)(c:∀a,C [a]):C us:=Dc h fun a _ h=>len0 h (C:=fun us=>C (a::us)) (c a)
theorem Cv(h:us.length=2)(c:∀a b,C [a,b]):C us:=Dc h fun a _ h=>MC h (C:=fun us=>C (a::us)) (c a)
theorem Qg(h:us.length=3)(c:∀a b d,C [a,b,d]):C us:=Dc h fun a _ h=>Cv h (C:=fun us=>C (a::us)) (c a)
theorem Qh(h:us.length=4)(c:∀a b d e,C [a,b,d,e]):C us:=Dc h fun a _ h=>Qg h (C:=fun us=>C (a::us)) (c a)
theorem So(h:us.length=5)(c:∀a b d e f,C [a,b,d,e,f]):C us:=Dc h fun a _ h=>Qh h (C:=fun us=>C (a::us)) (c a)
end Br
namespace L2
open PySem
variable{K:eg}{x qual:Str}{st:Stmt}{f:Addr}{fd:FuncData}{ps:List Str}
theorem Fun.d8(F:Fun K x qual st f fd)(hp:ps.length=1)(h:∀(kV doc pm:Value) (an:Option Addr) (cdv ct:Value) (a:Value),bindArgs (TX x qual (aN st) (aI st) (ah st) .none kV doc pm an cdv ct) ⟨[a],[]⟩=pure (ps.zip [a])):Binds K fd ps []:=
 F.binds fun kV doc pm an cdv ct us hl=>Br.MC (C:=fun us=>bindArgs (TX x qual (aN st) (aI st) (ah st) .none kV doc pm an cdv ct) ⟨us,[]⟩=pure (ps.zip us)) (hl.trans hp) (h kV doc pm an cdv ct)
theorem Fun.bK(F:Fun K x qual st f fd)(hp:ps.length=2)(h:∀(kV doc pm:Value) (an:Option Addr) (cdv ct:Value) (a b:Value),bindArgs (TX x qual (aN st) (aI st) (ah st) .none kV doc pm an cdv ct) ⟨[a,b],[]⟩=pure (ps.zip [a,b])):Binds K fd ps []:=
 F.binds fun kV doc pm an cdv ct us hl=>Br.Cv (C:=fun us=>bindArgs (TX x qual (aN st) (aI st) (ah st) .none kV doc pm an cdv ct) ⟨us,[]⟩=pure (ps.zip us)) (hl.trans hp) (h kV doc pm an cdv ct)
theorem Fun.dN(F:Fun K x qual st f fd)(hp:ps.length=3)(h:∀(kV doc pm:Value) (an:Option Addr) (cdv ct:Value) (a b d:Value),bindArgs (TX x qual (aN st) (aI st) (ah st) .none kV doc pm an cdv ct) ⟨[a,b,d],[]⟩=pure (ps.zip [a,b,d])):Binds K fd ps []:=
 F.binds fun kV doc pm an cdv ct us hl=>Br.Qg (C:=fun us=>bindArgs (TX x qual (aN st) (aI st) (ah st) .none kV doc pm an cdv ct) ⟨us,[]⟩=pure (ps.zip us)) (hl.trans hp) (h kV doc pm an cdv ct)
theorem Fun.xB(F:Fun K x qual st f fd)(hp:ps.length=4)(h:∀(kV doc pm:Value) (an:Option Addr) (cdv ct:Value) (a b d e:Value),bindArgs (TX x qual (aN st) (aI st) (ah st) .none kV doc pm an cdv ct) ⟨[a,b,d,e],[]⟩=pure (ps.zip [a,b,d,e])):Binds K fd ps []:=
 F.binds fun kV doc pm an cdv ct us hl=>Br.Qh (C:=fun us=>bindArgs (TX x qual (aN st) (aI st) (ah st) .none kV doc pm an cdv ct) ⟨us,[]⟩=pure (ps.zip us)) (hl.trans hp) (h kV doc pm an cdv ct)
theorem Fun.Dd(F:Fun K x qual st f fd)(hp:ps.length=5)(h:∀(kV doc pm:Value) (an:Option Addr) (cdv ct:Value) (a b d e g:Value),bindArgs (TX x qual (aN st) (aI st) (ah st) .none kV doc pm an cdv ct) ⟨[a,b,d,e,g],[]⟩=pure (ps.zip [a,b,d,e,g])):Binds K fd ps []:=
 F.binds fun kV doc pm an cdv ct us hl=>Br.So (C:=fun us=>bindArgs (TX x qual (aN st) (aI st) (ah st) .none kV doc pm an cdv ct) ⟨us,[]⟩=pure (ps.zip us)) (hl.trans hp) (h kV doc pm an cdv ct)
end L2
namespace Br
open PySem PySem.Spec PyProof.Rows L2
section
variable{prog:Program}{w:World}{A:Around}{E:Value->Shared->Prop}{s:Shared}
theorem MD{a b:Int}{t u:Tok}{Q:Value->Shared->Prop}(q:Q (.bool (decide (a<b))) s):wpAny (model prog w) A (richCompare .Lt (.int a t) (.int b u)) Q E s:=
 CmpOf.ints_lt (P:=fun i v=>∃t,v=.int (if i=0 then a else b) t) (fun i=>if i=0 then a else b) (fun i v h=>h) 0 1 _ _ s Q E ⟨t,rfl⟩ ⟨u,rfl⟩ q
noncomputable def Qi(a b:Value):Sem PySem.Fin:=do
  let p <- slotArgs "__lt__" 1 { pos:=[a,b] }
  match p with
  |(a,[b])=>do
   if !(<- PySem.isInstance b (.type "tuple")) then return <- ret .notImplemented
   let xs <- Builtin.Tuple.tupleItemsOf a
   let ys <- Builtin.Tuple.tupleItemsOf b
   for (x,y) in xs.toList.zip ys.toList do
    if !(<- eqBool x y) then
     match CmpOp.Lt with
     |.Eq=>return <- ret (.bool false)
     |.NotEq=>return <- ret (.bool true)
     |_=>do
      rule "tuple.compare.by-the-first-pair-that-differs"
      return <- ret (<- richCompare .Lt x y)
   ret (Vt .Lt xs.size ys.size)
  |_=>unsupported "internal:tuple.compare"
theorem ME(a b:Value):Builtin.«tuple.__lt__» { pos:=[a,b] }=Qi a b:=rfl
theorem uR{B:Value×Value->Option PySem.Fin×Unit->Sem (ForInStep (Option PySem.Fin×Unit))}
  (hB:∀(n m:Int) (t u:Tok) (K:ForInStep (Option PySem.Fin×Unit)->Shared->Prop),(if n=m then K (.yield (none,())) s else K (.done (some (.done (.ret (.bool (decide (n<m))))),())) s)->wpAny (model prog w) A (B (.int n t,.int m u) (none,())) K E s)
  {K:Option PySem.Fin×Unit->Shared->Prop}:∀{xs ys:List Value} {ks ms:List Int},IntsAre xs ks->IntsAre ys ms ->
  (∀r,(r=none->Dm.lx ks ms=decide (ks.length<ms.length))->(∀f,r=some f->f=.done (.ret (.bool (Dm.lx ks ms))))->K (r,()) s) ->
  wpAny (model prog w) A (forIn (xs.zip ys) (none,()) B) K E s
 |_,_,_,_,.nil,.nil,k=>wpAny_pure (k none (fun _=>by simp[Dm.lx]) fun _ h=>by cases h)
 |_,_,_,_,.nil,.cons m u h',k=>wpAny_pure (k none (fun _=>by simp[Dm.lx]) fun _ h=>by cases h)
 |_,_,_,_,.cons n t h,.nil,k=>wpAny_pure (k none (fun _=>by simp[Dm.lx]) fun _ h=>by cases h)
 |_,_,_,_,.cons n t h,.cons m u h',k=>by
  rw[UP,WV];refine wpAny_bind (hB n m t u _ ?_);by_cases e:n=m
  ·rw[if_pos e];refine uR hB h h' fun r h1 h2=>k r (fun z=>?_) fun f z=>?_
   ·rw[Dm.lx,if_pos e,h1 z];simp
   ·rw[Dm.lx,if_pos e];exact h2 f z
  ·rw[if_neg e];refine wpAny_pure (k _ (fun z=>by cases z) fun f z=>?_);injection z with z
   rw[<- z,Dm.lx,if_neg e]
theorem MF{a b:Addr}{oa ob:Obj}{xs ys:List Value}{ks ms:List Int}{na nb:Nat}(ha:s.heap.get? a=some oa)(ca:oa.cls=.type "tuple")(da:oa.data=.seq xs.toArray na)(ia:IntsAre xs ks)
  (hb:s.heap.get? b=some ob) (cb:ob.cls=.type "tuple") (db:ob.data=.seq ys.toArray nb) (ib:IntsAre ys ms) (hu:A.units<cLine) {Q:Value->Shared->Prop} (q:Q (.bool (Dm.lx ks ms)) s) :
  wpAny (model prog w) A (richCompare .Lt (.ref a) (.ref b)) Q E s:=by
 have ta:s.TypeIs (.ref a) "tuple" := ⟨oa,ha,ca⟩
 have tb:s.TypeIs (.ref b) "tuple" := ⟨ob,hb,cb⟩
 refine wpAny_richCompare_same_or ta tb F.slot_tuple_lt ?_ (.inr hu);refine wpAny_call_entry F.slot_tuple_lt ta F.entry_tuple_lt ?_;rw[ME];unfold Qi;refine wpAny_bind (wpAny_of_eq (show slotArgs "__lt__" 1 { pos:=[.ref a,.ref b] }=pure (.ref a,[.ref b]) from rfl) ?_);refine wpAny_bind (wpAny_isInstance tb (b:=true) rfl ?_);refine wpAny_bind (wpAny_tupleItemsOf ha da ?_);refine wpAny_bind (wpAny_tupleItemsOf hb db ?_);refine wpAny_bind (uR (fun n m t u K hk=>?_) ia ib fun r h1 h2=>?_)
 ·refine wpAny_bind (wpAny_eqBool_int ?_);by_cases e:n=m
  ·rw[if_pos e]at hk;have:(n == m)=true:=by simpa using e
   rw[this];exact wpAny_pure hk
  ·rw[if_neg e]at hk;have:(n == m)=false:=by simpa using e
   rw[this];refine wpAny_bind (wpAny_rule ?_);refine wpAny_bind (MD ?_);exact wpAny_bind (wpAny_pure (wpAny_pure hk))
 cases r with
 |none=>refine wpAny_pure ⟨_,rfl,(by simp[Vt]),?_⟩;rw[Sx,Sx,ia.length,ib.length,Vt.eq_3,<- h1 rfl];exact q
 |some f=>refine wpAny_pure ⟨_,h2 f rfl,(by simp),q⟩
end
end Br
namespace Dm
noncomputable def j0:Dat->Dat->Option RV
 |.tup xs,.tup (y::ys)=>if xs.length+(y::ys).length<=SZ then some (.val (.tup (xs++(y::ys)))) else none
 |_,_=>none
end Dm
namespace Br
open PySem PySem.Spec PyProof.Rows L2
def Ju:R2:=fun x y H Q=>∃l b xs zs,x=.ref l/\y=.ref b/\H l=some (.tup xs)/\H b=some (.tup zs)/\zs≠[]/\xs.length+zs.length<=sizeLine/\(xs=[]->Q (.ref b) H)/\(xs≠[]->∀p,H p=none->Q (.ref p) (upd H p (.tup (xs++zs))))
theorem Ho{X:Cx}:OpR X (binaryOp .Add) Ju:=by
 intro uV s σ H x y v u Q I rx ry h;obtain⟨l,b,xs,zs,rfl,rfl,hH,hB,n2,hz,q0,q⟩:=h;cases rx;cases ry;obtain⟨z1,its,r1,⟨⟨cls,dd,data,sl⟩,ho,hc,n,hd⟩⟩:=(show aR X.prog X.w H s.heap l (.tup xs) from I.hok l _ hH)
 obtain⟨z2,its2,r2,⟨⟨S9,dd2,data2,sl2⟩,ho2,hc2,n',hd2⟩⟩:=(show aR X.prog X.w H s.heap b (.tup zs) from I.hok b _ hB)
 simp only at hc hd hc2 hd2;subst hc hd hc2 hd2;have e:its.toArray++its2.toArray=(its++its2).toArray:=by simp
 have hl:=r1.length;have hl2:=r2.length;have m2:its2≠[]:=fun y=>n2 (VT.mp (by rw[hl2,y];rfl));by_cases n1:xs=[]
 ·have m1:its=[]:=VT.mp (by rw[<- hl,n1];rfl);exact concat_meets ⟨_,ho,rfl⟩ ⟨_,ho2,rfl⟩ noFill_tuple_add seq_tuple_add PySem.F.slot_tuple_add PySem.F.entry_tuple_add (PySem.F.args_tuple_add_2 _ _)
   (tuple_addW0 l b its.toArray its2.toArray n n' dd dd2 sl sl2 (by simp[m1])) ⟨ho,ho2,.ref b,H,I,rfl,q0 n1⟩
 ·have m1:its≠[]:=fun y=>n1 (VT.mp (by rw[hl,y];rfl));refine concat_meets ⟨_,ho,rfl⟩ ⟨_,ho2,rfl⟩ noFill_tuple_add seq_tuple_add PySem.F.slot_tuple_add PySem.F.entry_tuple_add (PySem.F.args_tuple_add_2 _ _)
   (tuple_addW2 l b its.toArray its2.toArray n n' dd dd2 sl sl2 (by simpa using m1) (by simpa using m2) (by rw[Sx,Sx];lia)) ⟨ho,ho2,?_⟩
  rw[e];refine⟨.ref _,_,I.laid (t':=s.toks) (fun _ _ q=>gV _ q) (Nat.le_refl _) (show aR X.prog X.w _ _ _ (.tup (xs++zs)) from ⟨by rw[Tz];exact hz,its++its2,r1.append r2,⟨_,TQ _ rfl,rfl,0,rfl⟩⟩),rfl,q n1 _ I.fresh⟩
theorem Hq:OpD Ju Dm.j0:=by
 intro H0 H x y dx dy z Q s rx ry e k;unfold Dm.j0 at e;split at e
 ·rename_i xs y1 ys;split at e
  case isFalse=>cases e
  rename_i hz;cases e;have r0:Rep H0 y (.tup (y1::ys)):=by
   rcases ry with r | ⟨a,_,w⟩
   ·exact r
   ·exact TF w
  obtain⟨a,us,rfl,qa,ra⟩:=dI s rx;obtain⟨b,ws,rfl,qb,rb⟩:=dI s ry;have la:=ra.length;have lb:=rb.length;refine⟨a,b,us,ws,rfl,rfl,qa,qb,fun q=>(by rw[q]at lb;cases lb),by rw[la,lb];exact jL hz,fun q=>?_,fun _ p hp=>?_⟩
  ·subst q;cases ra;exact k _ _ _ (aJ.refl s) r0
  ·have g:=aJ.Am (o:=.tup (us++ws)) s hp;exact k _ _ _ g (.tup ak ((ra.append rb).mono g.s0))
 ·cases e
section
variable{X:Cx}{pos:Pos}
theorem xC{a b:Expr}{fa fb:FE}(ha:DE X a fa)(hb:DE X b fb):DE X (.BinOp a .Add b pos) (Dm.e2 Dm.j0 fa fb):=uh Ho Hq ha hb
end
open PySem L2
structure bf(K:eg)(x:Str)(st:Stmt)(a:Addr)(fd:FuncData):Prop where
 e:TU K mainGlobals x=some (some (.ref a))
 F:Fun K x x st a fd
variable{K:eg}{x:Str}{st:Stmt}{a:Addr}{fd:FuncData}{hp:Heap}{mg:Str->Option Value}
theorem aG{oc:Value}{od an:Option Addr}{osl:Array (Option Value)}{kV doc pm cdv ct:Value}(e:TU K mainGlobals x=some (some (.ref a)))
  (l:K.lookup a=some ⟨oc,od,.func (TX x x (aN st) (aI st) (ah st) .none kV doc pm an cdv ct),osl⟩) (c:Va K cdv x=true) (k:Ul K (.ref a)=true) :
  bf K x st a (TX x x (aN st) (aI st) (ah st) .none kV doc pm an cdv ct):=⟨e,Le l c k⟩
theorem mgo{v:Value}(X:K.In hp)(G:hp.Ns mainGlobals mg)(e:TU K mainGlobals x=some (some v)):mg x=some v:=PySem.W.mg_of X G e
theorem mno(X:K.In hp)(G:hp.Ns mainGlobals mg)(e:TU K mainGlobals x=some none):mg x=none:=PySem.W.mg_none_of X G e
theorem bf.m(h:bf K x st a fd)(X:K.In hp)(G:hp.Ns mainGlobals mg):mg x=some (.ref a):=PySem.W.mg_of X G h.e
theorem bf.Sq{y:Str}(h:bf K x st a fd)(hb:∀(kV doc pm:Value) (an:Option Addr) (cdv ct v:Value),bindArgs (TX x x (aN st) (aI st) (ah st) .none kV doc pm an cdv ct) ⟨[v],[]⟩=pure [(y,v)])(s:Shared)(v:Value):BindsTo s fd ⟨[v],[]⟩ [(y,v)]:=by obtain⟨oc,od,kV,doc,pm,an,cdv,ct,osl,rfl,lk,MZ⟩:=h.F.ex;exact .of_eq (hb kV doc pm an cdv ct v)
theorem hm{j k:Nat}{A:Around}(r:aT k A)(h:j<=k:=by decide):aT j A:=r.mono h
theorem fsc{N P:List Str}{sc:Scope}(h1:sc.kind=.function:=by rfl)(h2:sc.isCoroutine=false:=by rfl)(h3:sc.isGenerator=false:=by rfl)(h4:N.take P.length=P:=by rfl)(h:N.Nodup/\(∀x∈P,sc.names.lookup x=some .local\/sc.names.lookup x=some .cell)/\∀y∈sc.names,y.2≠.free:=by decide +kernel):au N P sc:=⟨h1,h2,h3,h.1,h4,h.2.1,h.2.2⟩
end Br
namespace Dm
noncomputable def sUn(f g:FS):FS:=fun ρ=>match f ρ with
 |some x=>some x
 |none=>g ρ
noncomputable def qI(R:Env->Option Env)(C ie:Nat)(h:FS):FS:=fun ρ=>match R ρ with
 |none=>none
 |some ρ1=>if ie=0 then none else match h (ρ1.set ie (.sh (.exc C))) with
  |some (.nx ρ')=>some (.nx (ρ'.set ie .un))
  |some (.ret r ρ')=>some (.ret r (ρ'.set ie .un))
  |_=>none
noncomputable def uS:List Nat->List Bool->Nat->Option Bool
 |C::cs,b::bs,D=>if D=C then some b else uS cs bs D
 |_,_,_=>none
noncomputable def j3(cs:List Nat)(bs:List Bool):Dat->Option RV
 |.exc C=>(uS cs bs C).bind vB
 |_=>none
end Dm
namespace Br
open PySem PySem.Spec PyProof.Rows L2
section
variable{X:Cx}{C:Addr}{E:L2.St->XK}{R S:Dm.Env->Option Dm.Env}{sts Du:List Stmt}{st:Stmt}
section
variable{σ:L2.St}{t:FT}{H:Hp}
theorem Ss{f g:FS}(h1:DS X st f)(h2:DS X st g):DS X st (Dm.sUn f g):=fun uV s σ H D I q=>by
 obtain⟨H0,ρ,o,rs,e,k⟩:=q;unfold Dm.sUn at e;split at e
 ·rename_i y hy;exact h1 uV s σ H D I ⟨H0,ρ,o,rs,hy.trans e,k⟩
 ·exact h2 uV s σ H D I ⟨H0,ρ,o,rs,e,k⟩
def tY(C:Addr)(E:L2.St->XK)(R:Dm.Env->Option Dm.Env)(σ:L2.St)(H:Hp):Prop:=∃H0 ρ ρ',ay H0 H σ ρ/\R ρ=some ρ'/\∀σ' a H0' H',SSt σ ρ H0 H σ' ρ' H0' H'->E σ' (.ref C) (some a) H'
noncomputable abbrev YS(X:Cx)(C:Addr)(E:L2.St->XK)(st:Stmt)(R:Dm.Env->Option Dm.Env):Prop:=PS X st (fun _ σ H=>tY C E R σ H)
noncomputable abbrev YB(X:Cx)(C:Addr)(E:L2.St->XK)(sts:List Stmt)(R:Dm.Env->Option Dm.Env):Prop:=PSs X sts (fun _ σ H=>tY C E R σ H)
theorem tY.x(h:tY C E R σ H):tX C E R σ H:=by obtain⟨H0,ρ,ρ',st,e,k⟩:=h;exact⟨H0,ρ,ρ',st,e,fun a H0' H' t=>k σ a H0' H' t.sst⟩
theorem y_x(h:XS X C E st R):YS X C E st R:=PS.weak h fun _ _ _ q=>q.x
theorem gR(h:YS X C E st R):YB X C E (st::Du) R:=by have:=CQ (Du:=Du) h;exact fun uV s σ H D I q=>this uV s σ H D I q
theorem Qj(h:tY C E (Dm.rIf t R S) σ H):tDT t σ H fun b H1=>if b=true then tY C E R σ H1 else tY C E S σ H1:=by
 obtain⟨H0,ρ,ρ',rs,e,k⟩:=h;unfold Dm.rIf at e;split at e
 ·cases e
 ·rename_i ρ1 ht;exact⟨H0,ρ,true,ρ1,rs,ht,fun H0' H' u=>by show (if true=true then _ else _);rw[if_pos rfl];exact⟨H0',ρ1,ρ',u.st,e,fun σ'' a wX H'' w=>k σ'' a wX H'' (u.sst.trans w)⟩⟩
 ·rename_i ρ1 ht;exact⟨H0,ρ,false,ρ1,rs,ht,fun H0' H' u=>by show (if false=true then _ else _);rw[if_neg (by decide)];exact⟨H0',ρ1,ρ',u.st,e,fun σ'' a wX H'' w=>k σ'' a wX H'' (u.sst.trans w)⟩⟩
theorem MG{c:Expr}{a b:List Stmt}{pos:Pos}(hc:DT X c t)(ha:YB X C E a R)(hb:YB X C E b S):YS X C E (.If c a b pos) (Dm.rIf t R S):=PS.weak (Bp hc ha hb) fun _ _ _ q=>Qj q
theorem Su:YB X C E sts Dm.rNo:=fun uV s σ H D I h=>by obtain⟨_,_,_,_,e,_⟩:=h;cases e
end
end
theorem MH{X:Cx}{body:List Stmt}{h0:ExceptHandler}{hs:List ExceptHandler}{q:FS}{pos:Pos}(hb:∀(pn:List (Addr×Obj)) (xe:Value->Shared->Prop),DSs (Cx.in' X pn xe) body q):DS X (.Try body (h0::hs) [] [] pos) q:=by
 intro uV s σ H D I hq;refine wpAny_Try_except ?_;refine wpAny_mono (hb uV _ [] s σ H D (CW I) hq) (fun f s1 z=>?_) fun _ _ z=>z;cases f with
 |next=>obtain⟨σ',H',J,k⟩:=z;exact wpAny_execs_nil ⟨σ',H',gE J,k⟩
 |ret v=>obtain⟨u,σ',H',J,r,k⟩:=z;exact⟨u,σ',H',gE J,r,k⟩
 |brk=>obtain⟨σ',H',J,k⟩:=z;exact⟨σ',H',gE J,k⟩
 |cont=>obtain⟨σ',H',J,k⟩:=z;exact⟨σ',H',gE J,k⟩
section
variable{X:Cx}{uV pn:List (Addr×Obj)}{σ:L2.St}{H:Hp}{s:Shared}{xe:Value->Shared->Prop}
theorem MK{x n:Str}{np hpos pos:Pos}{body suite:List Stmt}{b₀:Stmt}{R:Dm.Env->Option Dm.Env}{h:FS}{C CP:Addr}{ie:Nat}
  (hst:X.stack=X.env::X.outer) (hfr:X.env.frame=some X.env.locals) (hex:X.ex=[]) (hN:X.N.Nodup) (hi:X.N[ie]?=some n) (hk:X.env.kindOf n=some .local) (hg:Gl X x) (hm:X.mg x=some (.ref CP)) (Z:PySem.W.su X.K C CP)
  (hb:∀(pn:List (Addr×Obj)) (xe:Value->Shared->Prop) (E:L2.St->XK),uI C (Cx.in' X pn xe) E->YB (Cx.in' X pn xe) C E body R)
  (hh:∀(A':Around) (xe:Value->Shared->Prop),DSs (Cx.sub' X A' xe) (b₀::suite) h) (MO:(x == ("__debug__" : Str))=false:=by decide) :
  DS X (.Try body [.ExceptHandler (some (.Name x np)) (some n) (b₀::suite) hpos] [] [] pos) (Dm.qI R C ie h):=by
 intro uV s σ H D I hq;obtain⟨H0,ρ,o,st,e,ok⟩:=hq;unfold Dm.qI at e;split at e
 ·cases e
 rename_i ρ1 hR;split at e
 ·cases e
 rename_i h0;refine wpAny_Try_except ?_;refine wpAny_mono (hb uV (fun e s₁=>wpAny (model X.prog X.w) X.A (noteFrame e X.env) (fun _ s₂=>wpAny (model X.prog X.w) X.A (setFlight e none) (fun _ s₃=>wpAny (model X.prog X.w) X.A (handleBy e X.env [.ExceptHandler (some (.Name x np)) (some n) (b₀::suite) hpos]) (SP X uV D) X.xe s₃) X.xe s₂) X.xe s₁)
  (fun σ' _ _ H'=>∃H0',SSt σ ρ H0 H σ' ρ1 H0' H') ?pass [] s σ H DF (CW I) ⟨H0,ρ,ρ1,st,hR,fun σ' a H0' H' t=>⟨H0',t⟩⟩) ?q fun _ _ z=>z
 case q=>
  intro f s1 z;cases f with
  |next=>obtain⟨_,_,_,q⟩:=z;exact TF q
  |ret v=>obtain⟨_,_,_,_,_,q⟩:=z;exact TF q
  |brk=>obtain⟨_,_,_,q⟩:=z;exact TF q
  |cont=>obtain⟨_,_,_,q⟩:=z;exact TF q
 case pass=>
  intro S2 σ1 H1 s1 e s' I1 hq;obtain⟨ea,a0,B,H',rfl,os,bare,un,hok,fl,hB,H0',t1⟩:=hq;obtain⟨hh',g,d,t,os'⟩:=s';obtain rfl:os'=s1.os:=os;have J:Inv X uV σ1 H' ⟨hh',g,d,t,s1.os⟩:=gE (I1.call (h':=hh') (g':=g) (d':=d) (t':=t) (ch:=[]) un hok bare (fun b z=>absurd z (by simp)));have J1:Inv X uV σ1 H1 s1:=gE I1;have ML:∀b o,X.s₀.heap.get? b=some o->∃o1,s1.heap.get? b=some o1:=fun b o e=>J1.base.there b o e (by rw[hex];exact fun z=>nomatch z);have hB':∀b o,hh'.get? b=some o->b∉frs X.stack->((X.s₀.heap.get? b).isSome=true\/(H' b).isSome=true\/∃p∈X.pn++uV,p.1=b)->B.get? b=some o:=fun b o e nb hc=>by
   refine hB b o e ?_ nb;rcases hc with hc | hc | ⟨p,hp,rfl⟩
   ·obtain⟨o0,e0⟩:=Uj.mp hc;obtain⟨o1,e1⟩:=ML b o0 e0;exact .inl (by rw[e1];rfl)
   ·exact .inr hc
   ·exact .inl (by rw[(J1.pin p hp).1];rfl)
  have hfs:X.A.frames=some (X.env::X.outer):=by rw[J.ok.frames,hst]
  have fl':Heap.FlyingW B (X.env::X.outer) ea (.ref C) a0 hh':=by rw[<- hst];exact fl
  show wpAny (model X.prog X.w) X.A (noteFrame (.ref ea) X.env) _ _ _;refine wpAny_looks_onW (base:=B) (L:=X.env.locals) hfs hfr fl' fun h4 held sl4=>?_;refine wpAny_landsW held fun h5 fl5 sl5=>?_;have J5:Inv X uV σ1 H' ⟨h5,g,d,t,s1.os⟩:=J.fly (t':=t) hex hB' fl5.1 (sl4.trans sl5);obtain⟨oe,vs,he,hc,hd,_⟩:=fl'.first
  have neF:ea∉frs X.stack:=fun z=>by rw[hst]at z;obtain⟨_,o',ho',hd'⟩:=fl'.2.2.1.mem z;rw[he]at ho';cases ho';exact hd' vs hd
  have noB:B.get? ea=none:=fl'.2.1;have nH:H' ea=none:=by
   cases q:H' ea with
   |none=>rfl
   |some u=>have:=hB' ea oe he neF (.inr (.inl (by rw[q];rfl)));rw[noB]at this;cases this
  have n0:X.s₀.heap.get? ea=none:=by
   cases q:X.s₀.heap.get? ea with
   |none=>rfl
   |some u=>have:=hB' ea oe he neF (.inl (by rw[q];rfl));rw[noB]at this;cases this
  have nl:ea≠X.env.locals:=fun z=>by obtain⟨m,⟨o,es,ep,ho,hd',_⟩,_⟩:=J.loc;rw[<- z,he]at ho;cases ho;rw[hd]at hd';cases hd'
  have nc:∀y c,X.env.cells.lookup y=some c->c≠ea:=fun y c e z=>by obtain⟨v,o,ho,hd'⟩:=J.cell y c e;rw[z,he]at ho;cases ho;rw[hd]at hd';cases hd'
  have np:∀p∈X.pn++uV,p.1≠ea:=fun p hp z=>by have:=hB' ea oe he neF (.inr (.inr ⟨p,hp,z⟩));rw[noB]at this;cases this
  have hB5:∀b o,h5.get? b=some o->b∉frs X.stack->((X.s₀.heap.get? b).isSome=true\/(H' b).isSome=true\/∃p∈X.pn++uV,p.1=b)->B.get? b=some o:=fun b o e nb MZ=>by
   have:∃o',hh'.get? b=some o':=by
    rcases MZ with hc | hc | ⟨p,hp,rfl⟩
    ·obtain⟨o0,e0⟩:=Uj.mp hc;exact J.base.there b o0 e0 (by rw[hex];exact fun z=>nomatch z)
    ·obtain⟨u,e0⟩:=Uj.mp hc;exact(J.hok b u e0).there
    ·exact⟨_,(J.pin p hp).1⟩
   obtain⟨o',e'⟩:=this;have q:=hB' b o' e' nb MZ;have q2:=fl5.1 b o' q;rw[e]at q2;cases q2;exact q
  obtain⟨oe5,he5,hc5⟩:=fl5.there;refine wpAny_handleBy_cons (codeAny_handlers_test ?_) (by intro q;cases q);refine gv (X:=Cx.sub' X (X.A.mark (some (.ref ea))) X.xe) (yZ rfl J5) hg hm ?_ MO;refine PySem.W.uK Z J5.kIn ⟨oe5,he5,hc5⟩ ?_;refine codeAny_handlers_suite_as ?_;refine lands_againW fl5 fun h6 fl6 sl6=>?_;have J6:Inv X uV σ1 H' ⟨h6,g,d,t,s1.os⟩:=J5.fly (t':=t) hex hB5 fl6.1 sl6;obtain⟨oe6,he6,hc6⟩:=fl6.there;have J7:=J6.Jm (o:=φX ea C) nH (φX_ok he6 hc6) n0 nl nc np;refine ku J7 hN hi (.inl hk) (v:=.ref ea) rfl (fun s8 J8 _=>?_) (.inr hk);have t12:SSt σ ρ H0 H σ1 ρ1 (upd H0' ea (φX ea C)) (upd H' ea (φX ea C)):=t1.trans (ESt.grow t1.st (aJ.Am t1.st.same nH)).sst;have rep:Rep (upd H0' ea (φX ea C)) (V.ref ea) (.exc C):=.exc ak;have Hr:SSt σ1 ρ1 (upd H0' ea (φX ea C)) (upd H' ea (φX ea C)) (σ1.set ie (some (.ref ea))) (ρ1.set ie (.sh (.exc C))) (upd H0' ea (φX ea C)) (upd H' ea (φX ea C)):=
   ⟨t12.st.rQ rep,Stp.refl _ _ _,fun a z=>.inl (dm z),gc h0⟩
  have HB:∀(oh:Dm.Out),h (ρ1.set ie (.sh (.exc C)))=some oh->(∀(D':Ends),(∀σ' H3,(∃ρ' H03,oh=.nx ρ'/\SSt (σ1.set ie (some (.ref ea))) (ρ1.set ie (.sh (.exc C))) (upd H0' ea (φX ea C)) (upd H' ea (φX ea C)) σ' ρ' H03 H3)->D'.nx σ' H3)->(∀v H3,(∃z ρ' σ' H03,oh=.ret z ρ'/\SSt (σ1.set ie (some (.ref ea))) (ρ1.set ie (.sh (.exc C))) (upd H0' ea (φX ea C)) (upd H' ea (φX ea C)) σ' ρ' H03 H3/\B0 (σ1.set ie (some (.ref ea))) (ρ1.set ie (.sh (.exc C))) (upd H' ea (φX ea C)) H03 H3 v z/\∀d a,z=.new d->v=.ref a->¬ao σ' ρ' a)->D'.rt v H3)->(∀ρ',oh≠.bk ρ')->(∀ρ',oh≠.ct ρ')->mU D' (σ1.set ie (some (.ref ea))) (ρ1.set ie (.sh (.exc C))) (upd H0' ea (φX ea C)) (upd H' ea (φX ea C)) oh):=fun oh _ D' hn hr hb hc=>by
   cases oh with
   |nx ρ'=>exact fun σ' H03 H3 tt=>hn σ' H3 ⟨ρ',H03,rfl,tt⟩
   |bk ρ'=>exact absurd rfl (hb ρ')
   |ct ρ'=>exact absurd rfl (hc ρ')
   |ret z ρ'=>exact fun σ' v H03 H3 tt rr no=>hr v H3 ⟨z,ρ',σ',H03,rfl,tt,rr,no⟩
  cases hoh:h (ρ1.set ie (.sh (.exc C))) with
  |none=>rw[hoh]at e;cases e
  |some oh=>
  rw[hoh]at e;have nb:∀ρ',oh≠.bk ρ':=fun ρ' z=>by rw[z]at e;cases e
  have nc':∀ρ',oh≠.ct ρ':=fun ρ' z=>by rw[z]at e;cases e
  refine wpAny_mono (hh (X.A.mark (some (.ref ea))) _ uV s8 _ _ { nx:=fun σ' H3=>∃ ρ' H03,oh=.nx ρ'∧SSt (σ1.set ie (some (.ref ea))) (ρ1.set ie (.sh (.exc C))) (upd H0' ea (φX ea C)) (upd H' ea (φX ea C)) σ' ρ' H03 H3,rt:=fun v H3=>∃ z ρ' σ' H03,oh=.ret z ρ'∧SSt (σ1.set ie (some (.ref ea))) (ρ1.set ie (.sh (.exc C))) (upd H0' ea (φX ea C)) (upd H' ea (φX ea C)) σ' ρ' H03 H3∧B0 (σ1.set ie (some (.ref ea))) (ρ1.set ie (.sh (.exc C))) (upd H' ea (φX ea C)) H03 H3 v z∧∀ d a,z=.new d→v=.ref a→¬ ao σ' ρ' a,bk:=fun _ _=>False,ct:=fun _ _=>False } (yZ rfl J8)
   ⟨_,_,_,Hr.st,hoh,HB oh hoh _ (fun _ _ z=>z) (fun _ _ z=>z) nb nc'⟩) (fun f s4 z=>?_) fun _ _ z=>z
  cases f with
  |next=>obtain⟨σ',H3,I4,ρ',H03,rfl,tt⟩:=z;cases e;refine name_goes (qC J.ok I4) hN hi hk fun s9 J9=>?_;exact⟨σ'.set ie none,H3,J9,ok _ _ _ (t12.trans (Hr.trans (tt.trans (SSt.drop tt.st h0))))⟩
  |ret v=>
   obtain⟨u,σ0,H3,I4,rl,z,ρ',σ',H03,rfl,tt,rr,no⟩:=z;cases e;refine name_goes (qC J.ok I4) hN hi hk fun s9 J9=>?_;refine⟨u,σ0.set ie none,H3,J9,rl,ok _ _ _ _ (t12.trans (Hr.trans (tt.trans (SSt.drop tt.st h0)))) ?_ ?_⟩
   ·cases z with
    |val d=>exact rr
    |new d=>
     obtain⟨a,ea',n,n0',w⟩:=rr;refine⟨a,ea',?_,n0',w⟩;have tp:=t12.trans Hr;rcases n with n | n
     ·exact .inl (tp.stp.gone n)
     ·exact(tp.own a n).symm
   ·intro d a hz hv ho;obtain⟨j,d',h1,h2⟩:=ho;refine no d a hz hv ?_;by_cases hj:ie=j
    ·subst hj;rw[Vn]at h1;simp only[if_true]at h1;split at h1<;>cases h1
    ·rw[gc hj]at h1 h2;exact⟨j,d',h1,h2⟩
  |brk=>obtain⟨_,_,_,q⟩:=z;exact TF q
  |cont=>obtain⟨_,_,_,q⟩:=z;exact TF q
end
section
variable{X:Cx}{C:Addr}{E:L2.St->XK}{k:Nat}{F:Addr}{fd:FuncData}{ps:List Str}{x:Str}{p pos:Pos}{e:Expr}{es:List Expr}{fs:List FE}{bad:List Dat->Bool}{c:Int}{tk:Tok}
theorem Ht{vs:List V}{H:Hp}{Q:VK}{E:XK}(h:spX C (fun ds=>bad (ds++[.int c])) vs H Q E):spX C bad (vs++[.int c]) H Q E:=by obtain⟨H0,ds,s,r,e,k⟩:=h;exact⟨H0,ds++[.int c],s,r.append (.cons (.int _) .nil),e,k⟩
theorem Hu(G:aK X.prog X.w X.K X.mg X.base (CXE X.prog X.w C) k F fd ps (spX C bad))(hr:aT k X.A)(hg:Gl X x)(hm:X.mg x=some (.ref F))(hk:Ul X.K (.ref F)=true)(hb:Binds X.K fd ps [.int c tk])(hx:uI C X E)
  (ha:DA X (e::es) fs) (MO:(x == ("__debug__" : Str))=false:=by decide) (he:starEach (e::es) X.env=(false,eval e X.env)::starEach es X.env:=by rfl) (Dy:(backTo pos (starEach es X.env)).any (·.1)=false:=by rfl) :
  XE X C E (.Call (.Name x p) (e::es) [] pos) (Dm.fJ (fun ds=>bad (ds++[.int c])) fs):=by
 intro uV s σ H Q I h;refine wpAny_Call_Name_kw (gv I hg hm ?_ MO);refine Wx (h₀:=X.base) I.ok.mod.kin hk (thn (ha pos uV s σ H _ I (yY h Q)) fun us s1 ⟨vs,H1,I1,r,q⟩=>⟨I1.kIn,?_⟩) he Dy;have q':=Ht q;have r':Vals (vs++[V.int c]) (us++[Value.int c tk]):=r.append (.cons (show RelV (V.int c) (Value.int c tk) from ⟨tk,rfl⟩) .nil);have hl:(us++[Value.int c tk]).length=ps.length:=by rw[<- r'.length];exact G.len _ _ _ _ q'
 refine wpAny_call (codeAny_mono (G.run X.A X.stack s1 H1 ⟨us,[]⟩ (us++[Value.int c tk]) (vs++[V.int c]) Q (E σ) hr I1.F0 (hb s1 us I1.kIn hl) r' q') fun r s' hq=>?_);cases r with
 |error e=>exact hx uV σ H1 s1 e s' I1 hq
 |ok fl=>
  cases fl with
  |ret u=>exact I1.after hq
  |next=>exact TF hq
  |brk=>exact TF hq
  |cont=>exact TF hq
end
section
variable{N ps:List Str}{fd:FuncData}{x qual:Str}{st:Stmt}
theorem Jv{C:Addr}{N:List Str}{n m:Nat}{R:Dm.Env->Option Dm.Env}{vs:List V}{H:Hp}{Q:VK}{E:XK}(hm:N.length=n+m)(h:spX C (Dm.fnX n m R) vs H Q E):tY C (fun _=>E) R (start N vs) H:=by have hvn:=sj h;obtain⟨H0,ds,s,rs,e,k⟩:=h;unfold Dm.fnX at e;rw[TN]at e;obtain⟨st,no⟩:=CT hm hvn s rs;obtain⟨ρ',hR⟩:=Uj.mp e.2;exact⟨H0,_,ρ',st,hR,fun σ' a H0' H' t=>k a H0' H' ⟨t.stp.s0,fun a o e=>t.stp.s1 a o e (no a),fun a o e=>(t.stp.s2 a o e).imp id fun q=>q.elim id fun z=>absurd z (no a),t.st.same⟩⟩
theorem okY{P:Program}{w:World}{K:eg}{mg:Str->Option Value}{base:Heap}{f C:Addr}{k n m:Nat}{R:Dm.Env->Option Dm.Env}(F:Fun K x qual st f fd)(S:au N ps (ah st))(hn:ps.length=n)(hm:N.length=n+m)
  (hbody:∀(cdv:Value) (A:Around) (outer:List Env) (s:Shared) (H:Hp) (E:XK),aT k (A.deeper (envOfC qual (ah st) s.heap.objs.size f cdv))->YB (dc (CXE P w C) P w K mg base N qual (ah st) f cdv A outer s H E) C (fun _=>E) (aI st) R) :
  aK P w K mg base (CXE P w C) (k+1) f fd ps (spX C (Dm.fnX n m R)):=by
 obtain⟨oc,od,kV,doc,pm,an,cdv,ct,osl,rfl,lk,MZ⟩:=F.ex;refine tW lk MZ S (fun vs H Q E h=>(sj h).trans hn.symm) fun A outer s H vs Q E hr hsp=>?_;exact⟨_,hbody cdv A outer s H E hr,Jv hm hsp⟩
theorem Qk{P:Program}{w:World}{K:eg}{mg:Str->Option Value}{base:Heap}{f C:Addr}{k n m:Nat}{R:Dm.Env->Option Dm.Env}(F:AO K x qual st f fd)(S:au N ps (ah st))(hn:ps.length=n)(hm:N.length=n+m)
  (hbody:∀(cdv:Value) (A:Around) (outer:List Env) (s:Shared) (H:Hp) (E:XK),aT k (A.deeper (envOfC qual (ah st) s.heap.objs.size f cdv))->YB (dc (CXE P w C) P w K mg base N qual (ah st) f cdv A outer s H E) C (fun _=>E) (aI st) R) :
  aK P w K mg base (CXE P w C) (k+1) f fd ps (spX C (Dm.fnX n m R)):=by
 obtain⟨oc,od,dV,kV,doc,pm,an,cdv,ct,osl,rfl,lk,MZ⟩:=F.ex;refine tW lk MZ S (fun vs H Q E h=>(sj h).trans hn.symm) fun A outer s H vs Q E hr hsp=>?_;exact⟨_,hbody cdv A outer s H E hr,Jv hm hsp⟩
end
section
variable{X:Cx}{C:Nat}{b:Bool}{cs:List Nat}{bs:List Bool}{e:Expr}{f:FE}
theorem De(h1:DE X e (Dm.e1 (Dm.se C b) f))(h2:DE X e (Dm.e1 (Dm.j3 cs bs) f)):DE X e (Dm.e1 (Dm.j3 (C::cs) (b::bs)) f):=fun uV s σ H Q I q=>by
 obtain⟨H0,ρ,x,ρ',st,e0,k⟩:=q;have e:=e0;unfold Dm.e1 at e;split at e
 ·cases e
 rename_i x1 ρ1 e1;split at e
 ·cases e
 rename_i dx p1;cases dx with
 |exc D=>
  by_cases hD:D=C
  ·refine h1 uV s σ H Q I ⟨H0,ρ,x,ρ',st,?_,k⟩;unfold Dm.e1;rw[e1];dsimp only;rw[p1];dsimp only;rw[<- e];unfold Dm.se Dm.j3 Dm.uS;dsimp only;rw[if_pos hD,if_pos hD];rfl
  ·refine h2 uV s σ H Q I ⟨H0,ρ,x,ρ',st,?_,k⟩;unfold Dm.e1;rw[e1];dsimp only;rw[p1];dsimp only;rw[<- e];unfold Dm.j3;dsimp only;rw[Dm.uS.eq_def (C::cs)];dsimp only;rw[if_neg hD]
 |_=>cases e
theorem Df:DE X e (Dm.e1 (Dm.j3 [] []) f):=fun uV s σ H Q I q=>by
 obtain⟨H0,ρ,x,ρ',st,e,k⟩:=q;unfold Dm.e1 at e;split at e
 ·cases e
 split at e
 ·cases e
 rename_i dx p1;cases dx<;>cases e
end
end Br
set_option maxHeartbeats 4000000
namespace Ts
open PySem PyProof.Rows
variable{A:Around}{E:Value->Shared->Prop}{s:Shared}{prog:Program}{w:World}
section
variable{vs:List Value}{l:Addr}
def Ql(prog:Program)(w:World)(A:Around)(E:Value->Shared->Prop)(a kS:Addr)(vs keys:List Value)(R:Heap->Prop)(s':Shared):Prop:=
 ∃(κ:KeyKind) (kd:SortKind),KeysOf κ (keys.toArray.zip vs.toArray)/\(2<=vs.length->∀Q:SortKind->Shared->Prop,Q kd s'->wpAny (model prog w) A (keyKind' keys.toArray) Q E s')/\d7 (model prog w) A E s' κ kd /\
  ∀(xs:Array Keyed) (h'':Heap),xs.Perm (keys.toArray.zip vs.toArray)->Seg κ xs 0 xs.size->(∀b o,b≠a->b≠kS->s'.heap.get? b=some o->h''.get? b=some o)->s'.heap.objs.size<=h''.objs.size->(∃c,h''.get? a=some (seqObj "list" (xs.map (·.2)) c))->R h''
theorem Dg{a:Addr}{f:Value}{vs:List Value}{n:Nat}{R:PySem.Fin->Shared->Prop}(J:Addr->Shared->List Value->Prop)
  (ho:s.heap.get? a=some (seqObj "list" vs.toArray n)) (hn:vs.length<=100000)
  (start:∀h',(∀b o,b≠a->s.heap.get? b=some o->h'.get? b=some o)->(∃o,h'.get? a=some o)->(∃o,h'.get? (s.heap.objs.size+1)=some o)->J (s.heap.objs.size+1) { s with heap:=h' } [])
  (MM:∀s' h'' keys,J (s.heap.objs.size+1) s' keys->(∀b o,b≠a->b≠s.heap.objs.size+1->s'.heap.get? b=some o->h''.get? b=some o)->(∃o,h''.get? a=some o)->(∃o,h''.get? (s.heap.objs.size+1)=some o)->J (s.heap.objs.size+1) { s' with heap:=h'' } keys)
  (turn:∀ i v keys s',vs[i]?=some v→keys.length=i→J (s.heap.objs.size+1) s' keys →
   wpAny (model prog w) A (call f [v]) (fun k s''=>J (s.heap.objs.size+1) s'' (keys++[k])/\∀b o,(b=a\/b=s.heap.objs.size+1)->s'.heap.get? b=some o->s''.heap.get? b=some o) (fun _ _=>False) s')
  (HB:∀s' keys,J (s.heap.objs.size+1) s' keys->keys.length=vs.length->Ql prog w A E a (s.heap.objs.size+1) vs keys (fun h''=>R (.done (.ret .none)) { s' with heap:=h'' }) s') :
  wpAny (model prog w) A (ksk_tree a f false) R E s:=by
 have ha:a<s.heap.objs.size:=Tn ho;obtain⟨e1,ho1⟩:∃e1,(s.heap.update a (T3 fun _=>(#[]:Array Value))).get? a=some (seqObj "list" #[] e1):=⟨_,get?_update_seq ho fun _=>#[]⟩
 have hkS:((s.heap.update a (T3 fun _=>(#[]:Array Value))).push (seqObj "tuple" vs.toArray 0)).objs.size=s.heap.objs.size+1:=by rw[size_push',Vd]
 unfold ksk_tree;refine wpAny_bind (listItems_at ho rfl ?_);refine wpAny_bind (listUpdate_at ho rfl ?_ (by rw[Sx,sizeLine_eq];lia) (T8 _));refine wpAny_bind (seqEpoch_at ho1 rfl ?_);refine wpAny_bind (wpAny_newTuple ?_ (by show vs.length<=_;rw[sizeLine_eq];lia));refine wpAny_bind (wpAny_newList ?_ (T8 _));refine wpAny_holding ?_;dsimp only;rw[hkS];have hka:s.heap.objs.size+1≠a:=UM (UH ha);have hA3:(((s.heap.update a (T3 fun _=>(#[]:Array Value))).push (seqObj "tuple" vs.toArray 0)).push (seqObj "list" #[] 0)).get? a=some (seqObj "list" #[] e1):=gV _ (gV _ ho1);have hK3:(((s.heap.update a (T3 fun _=>(#[]:Array Value))).push (seqObj "tuple" vs.toArray 0)).push (seqObj "list" #[] 0)).get? (s.heap.objs.size+1)=some (seqObj "list" #[] 0):=by rw[<- hkS];exact TQ _ rfl
 have hz3:s.heap.objs.size+1<(((s.heap.update a (T3 fun _=>(#[]:Array Value))).push (seqObj "tuple" vs.toArray 0)).push (seqObj "list" #[] 0)).objs.size:=by rw[size_push',hkS];exact WK _
 have hJ:=start _ (fun b o hb e=>gV _ (gV (h:=s.heap.update a (T3 fun _=>(#[]:Array Value))) _ (by rw[Us _ _ _ _ hb];exact e))) ⟨_,hA3⟩ ⟨_,hK3⟩
 generalize (((s.heap.update a (T3 fun _=>(#[]:Array Value))).push (seqObj "tuple" vs.toArray 0)).push (seqObj "list" #[] 0))=h3 at hA3 hK3 hJ
 generalize hkk:s.heap.objs.size+1=kS at *
 unfold ksk_rest;refine wpAny_bind (wpAny_rule ?_)
 first
  |rw[List.forIn_toArray]
  |(rw[<- Array.forIn_toList];simp only[List.toList_toArray])
  |rw[<- Array.forIn_toList]
 refine wpAny_bind (ksk_fold (fun i s'=>∃ keys e,J kS s' keys∧keys.length=i∧s'.heap.get? kS=some (seqObj "list" keys.toArray e)∧s'.heap.get? a=some (seqObj "list" #[] e1)) vs 0 _
  ⟨[],0,hJ,rfl,hK3,hA3⟩ ?step ?done)
 case step=>
  rintro j x s' hx ⟨keys,e,hj,hl,hk,hA⟩;simp only[VE]at hl ⊢;have hjl:j<vs.length:=(Tj.mp hx).1;refine wpAny_bind (wpAny_attempt (wpAny_mono (turn j x keys s' hx hl hj) (fun v s'' he=>?_) fun _ _ hF=>hF.elim));obtain⟨hj',kp⟩:=he;have hk':=kp kS _ (.inr rfl) hk;have hA':=kp a _ (.inl rfl) hA
  try dsimp only
  obtain⟨c2,hc2⟩:∃c2,(s''.heap.update kS (T3 (·.push v))).get? kS=some (seqObj "list" (keys.toArray.push v) c2):=⟨_,get?_update_seq hk' (·.push v)⟩
  refine wpAny_bind (listUpdate_at hk' rfl ?_ (by rw[Sx,sizeLine_eq];lia) (Nat.le_trans (WL (Uh ..)) (by rw[Sx,sizeLine_eq];lia)));refine wpAny_pure ⟨rfl,keys++[v],c2,MM _ _ _ hj' (fun b o _ hb e=>by rw[Us _ _ _ _ hb];exact e) ⟨_,(by rw[Us _ _ _ _ hka.symm];exact hA')⟩ ⟨_,hc2⟩,by rw[Tz,hl];rfl,?_,?_⟩
  ·rw[hc2];simp
  ·show (s''.heap.update kS _).get? a=_;rw[Us _ _ _ _ hka.symm];exact hA'
 case done=>
  rintro s' ⟨keys,e,hj,hl,hk,hA⟩;rw[VE]at hl
  try dsimp only
  refine wpAny_bind (listItems_at hk rfl ?_);obtain⟨κ,kd,hKK,hkd,hL,hR⟩:=HB s' keys hj hl;have hzs:(keys.toArray.zip vs.toArray).size=vs.length:=by rw[Array.size_zip,Sx,Sx,hl,Nat.min_self]
  have tail:∀st':SortSt,failedOf st'=none->(arrOf st').Perm (keys.toArray.zip vs.toArray)->Seg κ (arrOf st') 0 (arrOf st').size->wpAny (model prog w) A (ksk_tail a false e1 (.ref kS) st') R E s':=fun st' hf hp hs=>by
   unfold ksk_tail
   try dsimp only
   have hA1:(s'.heap.update kS (T3 fun _=>(#[]:Array Value))).get? a=some (seqObj "list" #[] e1):=by rw[Us _ _ _ _ hka.symm];exact hA
   refine wpAny_bind (listUpdate_at hk rfl ?_ (by rw[Sx,sizeLine_eq];lia) (T8 _));refine wpAny_bind (wpAny_letGo ?_);refine wpAny_bind (seqEpoch_at hA1 rfl ?_);have hsz:((arrOf st').map (·.2)).size=vs.length:=by rw[Array.size_map,hp.size_eq,hzs]
   refine wpAny_bind (listUpdate_at hA1 rfl ?_ (T8 _) (Nat.le_trans (WL (by simp only[UN,if_false];exact hsz)) (by rw[sizeLine_eq];lia)));rw[hf];simp only[bne_self_eq_false,UN,if_false];refine wpAny_pure (hR _ _ hp hs (fun b o b1 b2 eb=>?_) ?_ ?_)
   ·rw[Us _ _ _ _ b1,Us _ _ _ _ b2];exact eb
   ·rw[Vd,Vd];exact Nat.le_refl _
   ·exact⟨_,get?_update_seq hA1 fun _=>(arrOf st').map (·.2)⟩
  unfold ksk_end
  try dsimp only
  simp only[UN,if_false];by_cases h2:vs.toArray.size<2
  ·rw[if_pos h2,if_pos h2];refine wpAny_bind (wpAny_pure ?_);rw[StateT.run_pure];refine wpAny_bind (wpAny_pure ?_)
   try dsimp only
   refine tail (VS general' (keys.toArray.zip vs.toArray) #[] 7 none) rfl (Array.Perm.refl _) fun p q _ h2' h3=>?_;have h3':q<(keys.toArray.zip vs.toArray).size:=h3;rw[hzs]at h3';rw[Sx]at h2;have:p=q:=by lia
   subst this;exact UC _
  ·rw[if_neg h2,if_neg h2];rw[Sx]at h2;refine wpAny_bind (hkd (by lia) _ ?_);refine wpAny_bind (wpAny_mono (yW (κ:=κ) hL hKK (st:=VS kd (keys.toArray.zip vs.toArray) #[] 7 none) ⟨Array.Perm.refl _,rfl,rfl⟩ rfl (by rw [hzs];lia)
    (Q:=fun _ st'=>(arrOf st').Perm (keys.toArray.zip vs.toArray)/\failedOf st'=none/\Seg κ (arrOf st') 0 (keys.toArray.zip vs.toArray).size) fun st' sb sg=>⟨sb.perm,sb.failed,sg⟩) ?_ fun _ _ e=>e)
   rintro⟨⟨⟩,st'⟩ s'' ⟨rfl,hp,hf,hs⟩
   try dsimp only
   exact tail st' hf hp (by rw[hp.size_eq];exact hs)
theorem xD{q:Addr}{Q:Value->Shared->Prop}(J:Addr->Addr->Shared->List Value->Prop)(hl:s.heap.IsList l vs.toArray)(hn:vs.length<=100000)
  (start:∀h',(∀b o,s.heap.get? b=some o->h'.get? b=some o)->(∃o,h'.get? (s.heap.objs.size+1)=some o)->(∃o,h'.get? (s.heap.objs.size+3)=some o)->J (s.heap.objs.size+1) (s.heap.objs.size+3) { s with heap:=h' } [])
  (MM:∀a kS s' h'' keys,a=s.heap.objs.size+1->kS=s.heap.objs.size+3->J a kS s' keys->(∀b o,b≠a->b≠kS->s'.heap.get? b=some o->h''.get? b=some o)->(∃o,h''.get? a=some o)->(∃o,h''.get? kS=some o)->J a kS { s' with heap:=h'' } keys)
  (turn:∀ a kS i v keys s',a=s.heap.objs.size+1→kS=s.heap.objs.size+3→vs[i]?=some v→keys.length=i→J a kS s' keys →
   wpAny (model prog w) A.in1.in1 (call (.ref q) [v]) (fun k s''=>J a kS s'' (keys++[k])/\∀b o,(b=a\/b=kS)->s'.heap.get? b=some o->s''.heap.get? b=some o) (fun _ _=>False) s')
  (HB:∀a kS s' keys (E:Value->Shared->Prop),a=s.heap.objs.size+1->kS=s.heap.objs.size+3->J a kS s' keys->keys.length=vs.length->Ql prog w A.in1.in1 E a kS vs keys (fun h''=>Q (.ref a) { s' with heap:=h'' }) s') :
  wpAny (model prog w) A (call (.builtin "sorted") [.ref l] [(WM "key",.ref q)]) Q E s:=by
 refine call_function_entry_kw kind_sorted plain_sorted entry_sorted (ksk_s1 _ _) ?_;unfold Builtin.«sorted»;refine wpAny_bind (m:=checkCount "sorted" 1 1 _) (wpAny_pure ?_);refine wpAny_bind (collect_list hl ?_ (by rw[sizeLine_eq];lia));refine wpAny_bind (wpAny_newList ?_ (by rw[sizeLine_eq];lia));have hsz:((s.heap.push (seqObj "list" #[] 0)).update s.heap.objs.size (T3 (·++vs.toArray))).objs.size=s.heap.objs.size+1:=by rw[Vd,size_push']
 have hoL:(((s.heap.push (seqObj "list" #[] 0)).update s.heap.objs.size (T3 (·++vs.toArray))).push (seqObj "list" vs.toArray 0)).get? (s.heap.objs.size+1)=some (seqObj "list" vs.toArray 0):=by rw[<- hsz];exact TQ _ rfl
 have hz2:(((s.heap.push (seqObj "list" #[] 0)).update s.heap.objs.size (T3 (·++vs.toArray))).push (seqObj "list" vs.toArray 0)).objs.size=s.heap.objs.size+2:=by rw[size_push',hsz]
 have keep:∀b o,s.heap.get? b=some o->(((s.heap.push (seqObj "list" #[] 0)).update s.heap.objs.size (T3 (·++vs.toArray))).push (seqObj "list" vs.toArray 0)).get? b=some o:=fun b o q=>by have En:b<s.heap.objs.size:=Tn q;rw[UW _ _ _ (by rw[hsz];exact Tu (UH En)),Us _ _ _ _ (Tu En),UW _ _ _ (Tu En)];exact q
 show wpAny _ _ _ _ _ { s with heap:=((s.heap.push (seqObj "list" #[] 0)).update s.heap.objs.size (T3 (·++vs.toArray))).push (seqObj "list" vs.toArray 0) };rw[hsz];refine wpAny_bind (wpAny_holding (wpAny_call_entry_kw slot_list_sort ⟨_,hoL,rfl⟩ entry_list_sort ?body (ksk_l1 _ _)))
 case body=>
  show wpAny (model prog w) A.in1.in1 (Builtin.«list.sort» ⟨[.ref (s.heap.objs.size+1)],[(WM "key",.ref q)]⟩) _ _ _;rw[ksk_t1];refine Dg (s:={ s with heap:=((s.heap.push (seqObj "list" #[] 0)).update s.heap.objs.size (T3 (·++vs.toArray))).push (seqObj "list" vs.toArray 0) }) (J (s.heap.objs.size+1)) hoL hn
   (fun h' k g1 g2=>?_) (fun s' h'' keys hj k g1 g2=>?_) (fun i v keys s' hv hi hj=>?_) fun s' keys hj hk=>?_
  ·dsimp only at g2 ⊢;rw[hz2]at g2 ⊢;exact start h' (fun b o e=>k b o (Tu (UH (Tn e))) (keep b o e)) g1 g2
  ·dsimp only at hj k g2 ⊢;rw[hz2]at hj k g2 ⊢;exact MM _ _ s' h'' keys rfl rfl hj k g1 g2
  ·dsimp only at hj ⊢;rw[hz2]at hj ⊢;exact turn _ _ i v keys s' rfl rfl hv hi hj
  ·dsimp only at hj ⊢;rw[hz2]at hj ⊢;obtain⟨κ,kd,z1,z2,z3,z4⟩:=HB _ _ s' keys E rfl rfl hj hk;refine⟨κ,kd,z1,z2,z3,fun xs h'' y1 y2 y3 y4 y5=>⟨_,rfl,?_⟩⟩;exact wpAny_pure ⟨_,rfl,z4 xs h'' y1 y2 y3 y4 y5⟩
theorem xE{κ:KeyKind}{kd:SortKind}{Q:Value->Shared->Prop}(hl:s.heap.IsList l vs.toArray)(hn:vs.length<=100000)
  (hk:KeysOf κ (pairsOf vs)) (hkk:∀h',(∀b o,s.heap.get? b=some o->h'.get? b=some o)->2<=vs.length->∀{Q:SortKind->Shared->Prop} {E:Value->Shared->Prop},Q kd { s with heap:=h' }->wpAny (model prog w) A.in1.in1 (keyKind' vs.toArray) Q E { s with heap:=h' })
  (hL:∀(E:Value->Shared->Prop) h',(∀b o,s.heap.get? b=some o->h'.get? b=some o)->d7 (model prog w) A.in1.in1 E { s with heap:=h' } κ kd)
  (h:∀st':SortSt,(arrOf st').Perm (pairsOf vs)->Seg κ (arrOf st') 0 (pairsOf vs).size->Q (.ref (s.heap.objs.size+1)) { s with heap:=sortedAll s.heap vs ((arrOf st').map (·.2)) }) :
  wpAny (model prog w) A (call (.builtin "sorted") [.ref l]) Q E s:=by
 refine Calls.call_function_entry kind_sorted plain_sorted entry_sorted (args_sorted1 _) ?_;unfold Builtin.«sorted»;refine wpAny_bind (m:=checkCount "sorted" 1 1 _) (wpAny_pure (wpAny_bind (collect_list hl (wpAny_bind (wpAny_newList ?_ (Nat.le_trans hn (by decide)))) (Nat.le_trans hn (by decide)))));have zs:((s.heap.push (seqObj "list" #[] 0)).update s.heap.objs.size (T3 (·++vs.toArray))).objs.size=s.heap.objs.size+1:=by rw[Vd,size_push']
 have hL0:(((s.heap.push (seqObj "list" #[] 0)).update s.heap.objs.size (T3 (·++vs.toArray))).push (seqObj "list" vs.toArray 0)).get? (s.heap.objs.size+1)=some (seqObj "list" vs.toArray 0):=by rw[<- zs];exact TQ _ rfl
 have up:∀b o,s.heap.get? b=some o->(((s.heap.push (seqObj "list" #[] 0)).update s.heap.objs.size (T3 (·++vs.toArray))).push (seqObj "list" vs.toArray 0)).get? b=some o:=fun b o e=>by have lb:=Tn e;rw[UW _ _ _ (by rw[zs];exact Tu (UH lb)),Us _ _ _ _ (Tu lb),UW _ _ _ (Tu lb)];exact e
 show wpAny _ _ _ _ _ { s with heap:=((s.heap.push (seqObj "list" #[] 0)).update s.heap.objs.size (T3 (·++vs.toArray))).push (seqObj "list" vs.toArray 0) };dsimp only;rw[zs];have nb:∀b o,s.heap.get? b=some o->b≠s.heap.objs.size+1:=fun b o e=>Tu (UH (Tn e));refine wpAny_bind (wpAny_holding (wpAny_call_entry slot_list_sort ⟨_,hL0,rfl⟩ entry_list_sort (GR (κ:=κ) (kd:=kd) hL0 hn hk (fun h' k h2 {Q} hq=>hkk h' (fun b o e=>k b o (nb b o e) (up b o e)) h2 hq) (fun h' k=>hL _ h' fun b o e=>k b o (nb b o e) (up b o e)) fun st' a1 a2=>⟨_,rfl,?_⟩) (args_list_sort _)));exact wpAny_pure ⟨_,rfl,h st' a1 a2⟩
end
end Ts
namespace Br
open PySem PySem.Spec PyProof.Rows L2
structure MN(mg:Str->Option Value)(base:Heap)(cd:Value)(P0:Addr):Prop where
 code:∃c0,cd=.ref c0/\Wn base c0 P0
 blt:base.BuiltinsAt mg P0
noncomputable abbrev fZ(X:Cx)(params:Arguments)(body:Expr)(scope:Scope)(c:Addr)(ct:Value):Obj:=
 PySem.W.kla_obj "<lambda>" (X.env.qual ++ "<lambda>") params body scope [] ((X.mg "__name__").getD .none) c ct
def xF(H:Hp)(P0 c:Addr)(q:Str):Prop:=∃oc vs t,H c=some (.frz oc (.own P0))/\oc.data=.fields vs/\vs[1]?=some (.str q t)
theorem xF.rec{P:Program}{w:World}{H:Hp}{h:Heap}{P0 c:Addr}{q:Str}(l:xF H P0 c q)(ok:HOk P w H h):h.CodeRec (.ref c) q:=by obtain⟨oc,vs,t,e,d,v⟩:=l;exact⟨c,oc,vs,t,rfl,(ok c _ e).1,d,v⟩
theorem xF.mono{H H':Hp}{P0 c:Addr}{q:Str}(l:xF H P0 c q)(s:av H H'):xF H' P0 c q:=by obtain⟨oc,vs,t,e,r⟩:=l;exact⟨oc,vs,t,s _ _ e,r⟩
section
variable{X:Cx}{uV:List (Addr×Obj)}{σ:L2.St}{H:Hp}{s:Shared}
theorem Jw(I:Inv X uV σ H s){f:Addr}{o:Obj}(e:s.heap.get? f=some o)(n:H f=none)(nl:f≠X.env.locals)(nf:f∉X.fs)(d:∀v,o.data≠.cell v):Inv X ((f,o)::uV) σ H s:=
 I.lW fun p hp=>by
  rcases Tp.mp hp with rfl | hp
  ·exact⟨e,n,nl,nf,d⟩
  ·exact I.pin p (TY _ hp)
theorem Dh{params:Arguments}{body:Expr}{scope:Scope}{jY:Pos}{P0:Addr}{E:Value->Shared->Prop}{Q:Value->Shared->Prop}
  (I:Inv X uV σ H s) (tb:MN X.mg X.base X.env.code P0) (hcl:closureFor scope X.env=pure []) (hdef:defaultsOf params X.env=([],[]))
  (ht:H P0=some (.tbl (rawInt jY.line) (rawInt jY.col) (X.env.qual ++ "<lambda>")))
  (k:∀f c ct H' s',Inv X ((f,fZ X params body scope c ct)::uV) σ H' s'->xF H' P0 c (X.env.qual ++ "<lambda>")->av H H'->s.heap.objs.size<=s'.heap.objs.size->Q (.ref f) s') :
  wpAny (model X.prog X.w) X.A (eval (.Lambda params body scope jY) X.env) Q E s:=by
 obtain⟨⟨c0,hcode,hC⟩,hB⟩:=tb;obtain⟨ps,hP,d⟩:=I.hok P0 _ ht;have hg:=I.ok.mod.glob.keeps I.bk;have hgP:mainGlobals≠P0:=fun z=>by obtain⟨o,es,ep,e,_⟩:=I.ok.mod.glob;have:=(I.bs _ _ e).2;rw[z,ht]at this;cases this
 have nP:∀b,H b=none->b≠P0:=fun b n z=>by rw[z,ht]at n;cases n
 refine PySem.W.kla_eval hdef ?_;rcases d with rfl | ⟨c,oc,vs,t,rfl,d2,d3,d4⟩
 ·refine PySem.W.kla_makeFunction hcl I.ok.glob hg hcode (hC.keeps I.bk) hP trivial rfl hgP (hB.keeps I.bk) fun c' ctv h' tk hx hge En hrec htb=>?_;obtain⟨c2,oc,vs,t,ec,hoc,hd,hv⟩:=hrec;cases ec;have fc:H c'=none:=I.hok.fresh hge;have keep:∀b o,s.heap.get? b=some o->b≠P0->(h'.push (fZ X params body scope c' ctv)).get? b=some o:=fun b o e hb=>gV _ (hx b o hb e);have cP:c'≠P0:=fun z=>by rw[z,ht]at fc;cases fc
  have szs:s.heap.objs.size<=h'.objs.size:=VM (Ve hge En);have I2:Inv X uV σ (upd H c' (.frz oc (.own P0))) { s with heap:=h'.push (fZ X params body scope c' ctv),gens:=s.gens,drawn:=s.drawn,toks:=tk }:=by
   refine I.step (ch:=[]) (fun _ z=>nomatch z) (fun b o _ _ _ e n=>keep b o e (nP b n)) (fun b o _ _ _ e n=>⟨o.slots,keep b o e (nP b n)⟩)
    (fun b o _ e n=>by rw[aj (Tu (Tw (Tn e) hge))];exact n) (fun b o _ e=>?_)
    (fun b xs q=>by rw[aj (az q fc)];exact q) (fun b u xs q=>by rw[aj (az q fc)];exact q) (fun b _ _ _ q=>by rw[aj (az q fc)];exact q) (fun m hm=>?_) (fun b u e=>?_) I.bare
   ·by_cases hb:b=P0
    ·subst hb;exact⟨_,gV _ htb⟩
    ·exact⟨o,keep b o e hb⟩
   ·obtain⟨o,es,ep,ho,r⟩:=hm;exact⟨o,es,ep,keep _ o ho (nP _ I.free),r⟩
   ·by_cases hb:b=c'
    ·subst hb;rw[ak]at e;cases e;exact⟨gV _ hoc,_,gV _ hoc⟩
    ·rw[aj hb]at e;by_cases hb2:b=P0
     ·subst hb2;rw[ht]at e;cases e;refine⟨_,gV _ htb,.inr ⟨c',oc,vs,t,?_,ak,hd,hv⟩⟩;simp
     ·refine(I.hok b u e).stay (fun c v hc q=>keep c v q ?_) (fun c q=>by rw[aj (az q fc)];exact q) (fun c _ _ q=>by rw[aj (az q fc)];exact q) fun c xs q=>by rw[aj (az q fc)];exact q
      rcases hc with rfl | hc
      ·exact hb2
      ·rintro rfl;rw[ht]at hc;cases hc
  refine k _ c' ctv _ _ (Jw I2 (TQ _ rfl) ?_ ?_ ?_ fun v z=>by cases z) ⟨oc,vs,t,ak,hd,hv⟩ (fun b o e=>by rw[aj (az e fc)];exact e) ?_
  ·rw[aj (UM En)];exact I.hok.fresh szs
  ·exact UM (Tw I.lt szs)
  ·exact I.Ks szs
  ·show _<=(h'.push _).objs.size;rw[VD];lia
 ·have hf:codeAmong jY [rawInt jY.line,rawInt jY.col,TZ c]=some (.ref c):=by
   simp[codeAmong,rawInt]
  refine PySem.W.kla_makeFunctionHit hcl I.ok.glob hg hcode (hC.keeps I.bk) hP trivial hf (hB.keeps I.bk) fun ctv h' tk hk hsz=>?_;have I2:Inv X uV σ H { s with heap:=h'.push (fZ X params body scope c ctv),toks:=tk }:=I.kept fun b o e=>gV _ (hk b o e);refine k _ c ctv _ _ (Jw I2 (TQ _ rfl) (I.hok.fresh hsz) (UM (Tw I.lt hsz)) (I.Ks hsz) fun v z=>by cases z) ⟨oc,vs,t,d2,d3,d4⟩ (av.refl _) ?_;show _<=(h'.push _).objs.size;rw[VD];lia
end
end Br
namespace Dm
section
variable{key:Dat->Option (List Int)}
noncomputable def ltK(key:Dat->Option (List Int))(a b:Dat):Bool:=match key a,key b with
 |some x,some y=>lx x y
 |_,_=>false
noncomputable def keysOf(key:Dat->Option (List Int)):List Dat->Option (List (List Int))
 |[]=>some []
 |d::r=>match key d,keysOf key r with
  |some x,some xs=>some (x::xs)
  |_,_=>none
noncomputable def cE(key:Dat->Option (List Int)):List Dat->Option RV
 | [.lst ds]=>if ds.length≤100000 then (match keysOf key ds with
  |some kss=>if kss.Nodup then some (.new (.lst (cB (ltK key) ds))) else none
  |none=>none) else none
 |_=>none
noncomputable def uT:Dat->Option (List Int)
 |.tup [.int n,.tup ks,.lst _]=>(dQ ks).map fun ms=>n::ms
 |_=>none
noncomputable def xG(fk:FE)(d:Dat):Option (List Int):=match fk [.sh d] with
 |some (.val (.tup [.int n,.tup ks]),_)=>(dQ ks).map fun ms=>n::ms
 |_=>none
theorem qJ:∀{ds:List Dat} {kss:List (List Int)},keysOf key ds=some kss->kss.length=ds.length/\∀(i:Nat) (d:Dat),ds[i]?=some d->∃x,kss[i]?=some x/\key d=some x
 |[],kss,e=>by cases e;exact⟨rfl,fun i d h=>by simp at h⟩
 |d::r,kss,e=>by
  unfold keysOf at e;split at e
  ·rename_i x xs e1 e2;cases e;obtain⟨l,h⟩:=qJ e2;refine⟨by simp[l],fun i d' hi=>?_⟩;cases i with
   |zero=>cases hi;exact⟨x,rfl,e1⟩
   |succ i=>exact h i d' hi
  ·cases e
theorem nA:∀{l m:List Dat},l.Perm m->(∀a∈l,∀b∈l,ltK key a b=false->ltK key b a=false->a=b)->l.Pairwise (fun a b=>ltK key b a=false)->m.Pairwise (fun a b=>ltK key b a=false)->l=m
 |[],m,p,_,_,_=>(List.nil_perm.mp p).symm
 |x::l,[],p,_,_,_=>by have:=p.length_eq;simp at this
 |x::l,y::m,p,tot,h1,h2=>by
  obtain⟨a1,a2⟩:=Ux.mp h1;obtain⟨b1,b2⟩:=Ux.mp h2;have e:x=y:=by
   rcases Tp.mp (p.mem_iff.mp To) with hx | hx
   ·exact hx
   ·have hyl:=p.mem_iff.mpr (To (a:=y) (l:=m));rcases Tp.mp hyl with hy | hy
    ·exact hy.symm
    ·exact tot x To y hyl (b1 x hx) (a1 y hy)
  subst e;rw[nA (VO.cons_inv p) (fun a ha b hb=>tot a (Tq _ ha) b (Tq _ hb)) a2 b2]
theorem f9{a b:Dat}{x y:List Int}(ha:key a=some x)(hb:key b=some y):ltK key a b=lx x y:=by unfold ltK;rw[ha,hb]
theorem p6(key:Dat->Option (List Int))(l:List Dat)(h:∀d∈l,∃x,key d=some x):(cB (ltK key) l).Pairwise (fun a b=>ltK key b a=false):=by
 have gen:∀l:List Dat,(∀d∈l,∃x,key d=some x)->(cB (fun a b=>lx ((key a).getD []) ((key b).getD [])) l).Pairwise (fun a b=>lx ((key b).getD []) ((key a).getD [])=false):=fun l _=>
  fh (fun a b c h1 h2=>by
   cases h:lx ((key c).getD []) ((key a).getD [])
   ·rfl
   ·rcases CO _ ((key b).getD []) _ h with z | z
    ·rw[z]at h2;cases h2
    ·rw[z]at h1;cases h1) (fun a b h=>by
   cases h':lx ((key b).getD []) ((key a).getD [])
   ·rfl
   ·have:=jU _ _ _ h h';rw[gB]at this;cases this) l
 have eqs:∀a b:Dat,(∃x,key a=some x)->(∃x,key b=some x)->ltK key a b=lx ((key a).getD []) ((key b).getD []):=fun a b ⟨x,ha⟩ ⟨y,hb⟩=>by rw[f9 ha hb,ha,hb];rfl
 have Sv:∀(x:Dat) (m:List Dat),(∃k,key x=some k)->(∀d∈m,∃k,key d=some k)->ins (ltK key) x m=ins (fun a b=>lx ((key a).getD []) ((key b).getD [])) x m:=fun x m hx hm=>by
  induction m with
  |nil=>rfl
  |cons y m ih=>rw[ins,ins,eqs y x (hm y To) hx,ih fun d hd=>hm d (Tq _ hd)]
 have isE:∀m:List Dat,(∀d∈m,∃k,key d=some k)->cB (ltK key) m=cB (fun a b=>lx ((key a).getD []) ((key b).getD [])) m:=fun m hm=>by
  induction m with
  |nil=>rfl
  |cons y m ih=>rw[cB,cB,ih fun d hd=>hm d (Tq _ hd)];exact Sv y _ (hm y To) fun d hd=>hm d (Tq _ ((ck _ m).mem_iff.mp hd))
 rw[isE l h];refine(gen l h).imp_of_mem fun {a b} ha hb z=>?_;rw[eqs b a (h b ((ck _ l).mem_iff.mp hb)) (h a ((ck _ l).mem_iff.mp ha))];exact z
end
end Dm
namespace Br
open PySem PySem.Spec PyProof.Rows L2
section
variable{ok:Addr->Bool}{ks:List Int}{v:Value}{H:Hp}
def cY(H:Hp)(v:Value)(ks:List Int)(r:List V):Prop:=∃(a b:Addr) (n:Int) (ms:List Int),v=.ref a/\H a=some (.tup (.int n::.ref b::r))/\H b=some (.tup (ms.map V.int))/\ks=n::ms
noncomputable def qK(H:Hp)(ok:Addr->Bool):Value->Option (List Int)
 | .ref a=>if ok a then (match H a with
  | some (.tup (.int n::.ref b::_))=>(match H b with
   |some (.tup xs)=>(jW xs).map fun ms=>n::ms
   |_=>none)
  |_=>none) else none
 |_=>none
noncomputable def b9(H:Hp)(ok:Addr->Bool):KeyKind:={ lexOrd with keyOf:=qK H ok,dflt:=([]:List Int) }
theorem nB{r:List V}(h:cY H v ks r)(ho:∀a,v=.ref a->ok a=true):qK H ok v=some ks:=by obtain⟨a,b,n,ms,rfl,h1,h2,rfl⟩:=h;unfold qK;dsimp only;rw[if_pos (ho a rfl),h1];dsimp only;rw[h2];dsimp only;rw[gC];rfl
theorem gF(h:qK H ok v=some ks):∃r a,v=.ref a/\ok a=true/\cY H v ks r:=by
 unfold qK at h;split at h
 ·rename_i a;split at h
  ·rename_i ho;split at h
   ·rename_i n b r h1;split at h
    ·rename_i xs h2;cases q:jW xs with
     |none=>rw[q]at h;cases h
     |some ms=>rw[q]at h;cases h;have:=uH q;subst this;exact⟨r,a,rfl,ho,a,b,n,ms,rfl,h1,h2,rfl⟩
    ·cases h
   ·cases h
  ·cases h
 ·cases h
end
section
variable{prog:Program}{w:World}{A:Around}{E:Value->Shared->Prop}{s:Shared}
section
variable{Q:Bool->Shared->Prop}{h:Heap}{H:Hp}
theorem eq_self{a:Addr}(h:Q true s):wpAny (model prog w) A (eqBool (.ref a) (.ref a)) Q E s:=by
 unfold eqBool
 try with_reducible refine wpAny_holding ?_
 show wpAny _ _ (if (TZ a == TZ a)=true then _ else _) Q E s;rw[if_pos (by simp)];exact wpAny_bind (wpAny_rule (wpAny_pure h))
theorem qL{HB:Bool}(q:Q HB s):∀{as:List Addr} (i:Nat),PySem.W.KatLex prog w A true HB Q ((as.map TZ).zip (as.map TZ)) i s
 |[],i=>q
 |a::as,i=>by rw[PU,UP];exact WN (eq_self (WY (qL q (i+1))))
theorem kQ:∀{as:List Addr} {us:List Value},Vals (as.map V.ref) us->us=as.map TZ
 |[],_,.nil=>rfl
 |a::as,_,.cons h r=>by cases h;rw[kQ r];rfl
theorem Jx{xs:List Value}{ms:List Int}:IntsAre xs ms->ItemsAre (intKind prog w) ms xs:=fun h=>by
 induction h with
 |nil=>exact .nil
 |cons n t _ ih=>exact .cons (show Value.isInt n (.int n t)=true by simp[Value.isInt]) ih
theorem lt2(hu:A.units<cLine)(ok:HOk prog w H h)(hh:∀b o,h.get? b=some o->s.heap.get? b=some o){x y:Value}{ks ms:List Int}{r r':List V}(kx:cY H x ks r)(ky:cY H y ms r')
  (hl:r.length=r'.length) (hs:ks=ms->∃as:List Addr,r=as.map V.ref/\r'=as.map V.ref) {Q:Bool->Shared->Prop} (q:Q (Dm.lx ks ms) s):wpAny (model prog w) A (keyLt' (tuples' true) x y) Q E s:=by
 obtain⟨a,b,n,ns,rfl,h1,h2,rfl⟩:=kx;obtain⟨a',b',n',ns',rfl,h1',h2',rfl⟩:=ky;obtain⟨_,ts,rt,o,ho,hc,m,hd⟩:=ok a _ h1;obtain⟨_,ts',rt',o',ho',hc',m',hd'⟩:=ok a' _ h1';obtain⟨_,us,ru,p,hp,pc,pm,pd⟩:=ok b _ h2;obtain⟨_,us',ru',p',hp',pc',pm',pd'⟩:=ok b' _ h2';cases rt with
 |cons e1 rt=>
 cases rt with
 |cons e2 rt=>
 cases rt' with
 |cons e1' rt'=>
 cases rt' with
 |cons e2' rt'=>
 obtain⟨t,rfl⟩:=e1;obtain⟨t',rfl⟩:=e1';cases e2;cases e2';have l1:=rt.length;have l2:=rt'.length;have iu:=intsAre_of ru;have iu':=intsAre_of ru';refine PySem.W.kat_lt (hh _ _ ho) hd (hh _ _ ho') hd' ?_;rw[UP,UP];refine WN (wpAny_eqBool_int ?_);rw[Dm.lx]at q;by_cases e:n=n'
 ·rw[if_pos e]at q;have:(n == n')=true:=by simpa using e
  rw[this];refine WY (WN (wpAny_eqBool_tuple (knd:=intKind prog w) hu ⟨p,_,pm,hh _ _ hp,pc,pd,Jx iu⟩ ⟨p',_,pm',hh _ _ hp',pc',pd',Jx iu'⟩ ?_));by_cases e':ns=ns'
  ·subst e e';rw[decide_eq_true rfl];obtain⟨as,rfl,rfl⟩:=hs rfl;rw[kQ rt,kQ rt'];refine WY (qL ?_ _);rw[Dm.gB]at q
   simpa using q
  ·rw[decide_eq_false e'];refine PySem.W.kat_no ?_;refine PySem.W.kat_one _ _ ?_;show wpAny _ _ (richCompare .Lt (.ref b) (.ref b')) _ _ s;exact MF (hh _ _ hp) pc pd iu (hh _ _ hp') pc' pd' iu' hu q
 ·rw[if_neg e]at q;have:(n == n')=false:=by simpa using e
  rw[this];exact PySem.W.kat_no (oneLt_int q)
theorem Jy(ok:HOk prog w H h)(hh:∀b o,h.get? b=some o->s.heap.get? b=some o){vs:List Value}(hv:∀v∈vs,∃ks r,cY H v ks r)(h2:2<=vs.length){Q:SortKind->Shared->Prop}(q:Q (tuples' true) s) :
  wpAny (model prog w) A (keyKind' vs.toArray) Q E s:=by
 have tups:∀l:List Value,(∀v∈l,∃ks r,cY H v ks r)->∃fs,PySem.W.KatTups s.heap l fs/\fs.length=l.length/\∀f∈fs,∃n t,f=Value.int n t:=fun l=>by
  induction l with
  |nil=>intro _;exact⟨[],.nil,rfl,fun f hf=>by cases hf⟩
  |cons v l ih=>
   intro hl';obtain⟨ks,r,a,b,n,ns,rfl,h1,h2,rfl⟩:=hl' v To;obtain⟨fs,t,lf,hf⟩:=ih fun z hz=>hl' z (Tq _ hz);obtain⟨_,ts,rt,o,ho,hc,m,hd⟩:=ok a _ h1;cases rt with
   |cons e1 rt=>
    obtain⟨t1,rfl⟩:=e1;refine⟨_::fs,.cons (hh _ _ ho) hc hd (f:=.int n t1) (by simp) t,by simp[lf],fun f hm=>?_⟩;rcases Tp.mp hm with rfl | hm
    ·exact⟨_,_,rfl⟩
    ·exact hf f hm
 obtain⟨fs,t,lf,hf⟩:=tups vs hv;refine PySem.W.kat_kind (T:=.type "int") t (by lia) (fun f hm=>?_) (by rfl) q;obtain⟨n,tk,rfl⟩:=hf f hm;exact .now
end
end
section
variable{key:Dat->Option (List Int)}{ds:List Dat}{α β:Type}{H0 H:Hp}
theorem AU(f:α->β):∀{l':List β} {m:List β},l'.Perm m->∀l:List α,l.map f=m->∃k:List α,k.Perm l/\k.map f=l':=fun {l' m} p=>by
 induction p with
 |nil=>intro l e;exact⟨[],by rw[List.map_eq_nil_iff.mp e],rfl⟩
 |cons x p ih=>intro l e;obtain⟨a,r,rfl,rfl,e2⟩:=Wf.mp e;obtain⟨k,k1,k2⟩:=ih r e2;exact⟨a::k,k1.cons a,by rw[PU,k2]⟩
 |swap x y l0=>intro l e;obtain⟨a,r,rfl,rfl,e2⟩:=Wf.mp e;obtain⟨b,r2,rfl,rfl,e3⟩:=Wf.mp e2;exact⟨b::a::r2,VO.swap a b r2,by rw[PU,PU,e3]⟩
 |trans p1 p2 i1 i2=>intro l e;obtain⟨k,k1,k2⟩:=i2 l e;obtain⟨k',k3,k4⟩:=i1 k k2;exact⟨k',k3.trans k1,k4⟩
structure Qd where
 k:Value
 v:Value
 u:V
 d:Dat
 ks:List Int
structure Qd.Ok(H0 H:Hp)(key:Dat->Option (List Int))(q:Qd):Prop where
 k2:∃r,cY H q.k q.ks r
 rel:RelV q.u q.v
 rep:Rep H0 q.u q.d
 key:key q.d=some q.ks
theorem Jz:∀{us:List V} {its keys:List Value} {ds:List Dat} {kss:List (List Int)},Paired (fun k ks=>∃r,cY H k ks r) keys kss->Vals us its->aD H0 us ds->Dm.keysOf key ds=some kss ->
  ∃qs:List Qd,qs.map (fun q=>(q.k,q.v))=keys.zip its/\qs.map (·.d)=ds/\qs.map (·.ks)=kss/\∀q∈qs,q.Ok H0 H key
 |[],_,keys,_,kss,p,.nil,.nil,e=>by cases e;cases p;exact⟨[],rfl,rfl,rfl,fun q h=>by cases h⟩
 |u::us,v::its,keys,d::ds,kss,p,.cons hv rv,.cons hr rr,e=>by
  unfold Dm.keysOf at e;split at e
  ·rename_i x xs e1 e2;cases e;cases p with
   |cons h t=>
    rename_i k keys';obtain⟨qs,a1,a2,a3,a4⟩:=Jz t rv rr e2;refine⟨⟨k,v,u,d,x⟩::qs,by rw[PU,a1];rfl,by rw[PU,a2],by rw[PU,a3],fun q hq=>?_⟩;rcases Tp.mp hq with rfl | hq
    ·exact⟨h,hv,hr,e1⟩
    ·exact a4 q hq
  ·cases e
theorem Di{f:α->β}{l:List α}(h:(l.map f).Nodup){a b:α}(ha:a∈l)(hb:b∈l)(e:f a=f b):a=b:=by obtain⟨i,hi,rfl⟩:=Wh ha;obtain⟨j,hj,rfl⟩:=Wh hb;have:i=j:=(List.getElem_inj (h₀:=by simpa using hi) (h₁:=by simpa using hj) h).mp (by simpa using e);subst this;rfl
theorem qM{ok:Addr->Bool}{key:Dat->Option (List Int)}{keys its:List Value}{us:List V}{kss:List (List Int)}(pk:Paired (fun k ks=>∃r,cY H k ks r) keys kss)(rv:Vals us its)(rr:aD H0 us ds)
  (e:Dm.keysOf key ds=some kss) (nd:kss.Nodup) (hok:∀k∈keys,∀a,k=.ref a->ok a=true) {xs:Array Keyed} (hp:xs.Perm (keys.toArray.zip its.toArray)) (hs:Ts.Seg (b9 H ok) xs 0 xs.size) :
  ∃(zs:List V) (out:List Value),xs.map (·.2)=out.toArray/\Vals zs out/\zs.length=us.length/\aD H0 zs (Dm.cB (Dm.ltK key) ds):=by
 obtain⟨qs,a1,a2,a3,a4⟩:=Jz pk rv rr e;have pm:xs.toList.Perm (keys.zip its):=by
  have:=Vl.mp hp
  rwa [show (keys.toArray.zip its.toArray).toList=keys.zip its by simp]at this
 obtain⟨qs',b1,b2⟩:=AU (fun q:Qd=>(q.k,q.v)) pm qs a1;have ok':∀q∈qs',q.Ok H0 H key:=fun q hq=>a4 q (b1.mem_iff.mp hq);have mk:∀q∈qs',q.k∈keys:=fun q hq=>by
  have:(q.k,q.v)∈keys.zip its:=by rw[<- a1];exact List.mem_map_of_mem (b1.mem_iff.mp hq)
  exact(Vh this).1
 have kq:∀q∈qs',qK H ok q.k=some q.ks:=fun q hq=>by obtain⟨r,z⟩:=(ok' q hq).k2;exact nB z (hok _ (mk q hq))
 have ka:KeysOf (b9 H ok) xs:=fun p hp=>by rw[<- b2]at hp;obtain⟨q,hq,rfl⟩:=U0.mp hp;exact⟨q.ks,kq q hq⟩
 have so:qs'.Pairwise (fun x y=>Dm.lx y.ks x.ks=false):=by have:=(Ts.eO ka (i:=0) (j:=xs.size) (Nat.le_refl _)).mp hs;rw[Ts.e_,List.drop_zero,<- b2,List.pairwise_map]at this;refine this.imp_of_mem fun {x y} hx hy hle=>?_;have hle':Dm.lx (Ts.kp (b9 H ok) (y.k,y.v)) (Ts.kp (b9 H ok) (x.k,x.v))=false:=hle;unfold Ts.kp at hle';have e1:(b9 H ok).keyOf (x.k,x.v).1=some x.ks:=kq x hx;have e2:(b9 H ok).keyOf (y.k,y.v).1=some y.ks:=kq y hy;rw[e1,e2]at hle';exact hle'
 have es:qs'.map (·.d)=Dm.cB (Dm.ltK key) ds:=by
  have hk:∀d∈ds,∃x,key d=some x:=fun d hd=>by rw[<- a2]at hd;obtain⟨q,hq,rfl⟩:=U0.mp hd;exact⟨_,(a4 q hq).key⟩
  refine Dm.nA (((b1.map (·.d)).trans (.of_eq a2)).trans (Dm.ck _ ds).symm) (fun a ha b hb h1 h2=>?_) ?_ (Dm.p6 key ds hk)
  ·obtain⟨x,hx,rfl⟩:=U0.mp ha;obtain⟨y,hy,rfl⟩:=U0.mp hb;rw[Dm.f9 (ok' x hx).key (ok' y hy).key]at h1;rw[Dm.f9 (ok' y hy).key (ok' x hx).key]at h2;have:=Dm.jV _ _ h1 h2;rw[Di (f:=Qd.ks) (by rw[a3];exact nd) (b1.mem_iff.mp hx) (b1.mem_iff.mp hy) this]
  ·rw[List.pairwise_map];refine so.imp_of_mem fun {x y} hx hy h=>?_;rw[Dm.f9 (ok' y hy).key (ok' x hx).key];exact h
 have vals:∀l:List Qd,(∀q∈l,q.Ok H0 H key)->Vals (l.map (·.u)) (l.map (·.v))/\aD H0 (l.map (·.u)) (l.map (·.d)):=fun l=>by
  induction l with
  |nil=>intro _;exact⟨.nil,.nil⟩
  |cons q l ih=>intro h;obtain⟨i1,i2⟩:=ih fun z hz=>h z (Tq _ hz);exact⟨.cons (h q To).rel i1,.cons (h q To).rep i2⟩
 obtain⟨v1,v2⟩:=vals qs' ok';refine⟨qs'.map (·.u),qs'.map (·.v),?_,v1,?_,?_⟩
 ·apply Array.toList_inj.mp;rw[Array.toList_map,<- b2,Vg];rfl
 ·rw[Dp,b1.length_eq,rr.length];have:=congrArg List.length a2
  rwa [Dp]at this
 ·rw[<- es];exact v2
def rD(g:List Dat->Option RV):List V->Hp->VK->Prop:=fun vs H Q=>∃H0 ds z,av H0 H/\qq H0 H vs ds/\g ds=some z/\∀v H0' H',aJ H0 H H0' H'->rN H H0' H' v z->Q v H'
theorem JA(g:List Dat->Option RV):CallD (rD g) g:=fun H0 H vs ds z Q s rs e k=>⟨H0,ds,z,s,rs,e,k⟩
theorem lF{z:RV}(e:Dm.cE key ds=some z):∃xs kss,ds=[.lst xs]/\xs.length<=100000/\Dm.keysOf key xs=some kss/\kss.Nodup/\z=.new (.lst (Dm.cB (Dm.ltK key) xs)):=by
 unfold Dm.cE at e;split at e
 ·split at e
  ·split at e
   ·split at e
    ·rename_i h1 _ kss h2 h3;cases e;exact⟨_,kss,rfl,h1,h2,h3,rfl⟩
    ·cases e
   ·cases e
  ·cases e
 ·cases e
theorem Dj{H0:Hp}{u:V}{d:Dat}{ks:List Int}(r:Rep H0 u d)(e:Dm.uT d=some ks):∃a l,u=.ref a/\∀v,RelV u v->cY H0 v ks [.ref l]:=by
 unfold Dm.uT at e;split at e
 ·rename_i n ds ls;cases q:Dm.dQ ds with
  |none=>rw[q]at e;cases e
  |some ms=>
   rw[q]at e;cases e;cases r with
   |tup h rs=>
    cases rs with
    |cons r1 rs=>
    cases rs with
    |cons r2 rs=>
    cases rs with
    |cons r3 rs=>
    cases rs;cases r1;cases r2 with
    |tup h2 rs2=>
     have:=jS rs2 q;subst this;cases r3 with
     |lst h3 rs3=>rename_i l _;refine⟨_,l,rfl,fun v hv=>?_⟩;cases hv;exact⟨_,_,n,ms,rfl,h,h2,rfl⟩
 ·cases e
end
section
variable{X:Cx}
theorem xH{k:Nat}(hr:aT k X.A):cy X (.builtin "sorted") (rD (Dm.cE Dm.uT)):=by
 intro uV s σ H xs us Q I r h;obtain⟨H0,ds,z,sm,rs,e,kk⟩:=h;obtain⟨xd,kss,rfl,hz,hk,nd,rfl⟩:=lF e;cases rs with
 |cons r1 rr=>
 cases rr;obtain⟨a,ys,rfl,qa,ra⟩:=br sm r1;obtain⟨u,rfl,rx⟩:=vals1 r;cases rx;obtain⟨its,rv,pl,hzz⟩:=I.list (.inl qa);have xM:=rv.length;have hlen2:=ra.length;have pk:∀{ys:List V} {its:List Value} {xd:List Dat} {kss:List (List Int)},Vals ys its->aD H0 ys xd->Dm.keysOf Dm.uT xd=some kss->Paired (fun k ks=>∃l,cY H0 k ks [.ref l]) its kss:=fun {ys}=>by
  induction ys with
  |nil=>intro its xd kss rv ra e;cases rv;cases ra;cases e;exact .nil
  |cons y ys ih=>
   intro its xd kss rv ra e;cases rv with
   |cons v1 v2=>
   cases ra with
   |cons w1 w2=>
   unfold Dm.keysOf at e;split at e
   ·rename_i x xs e1 e2;cases e;obtain⟨_,l,_,z⟩:=Dj w1 e1;exact .cons ⟨l,z _ v1⟩ (ih v2 w2 e2)
   ·cases e
 have pk1:=pk rv ra hk;have up2:∀{v:Value} {ks:List Int} {r:List V},cY H0 v ks r->cY H v ks r:=fun {v ks r} ⟨a,b,n,ms,e,h1,h2,h3⟩=>⟨a,b,n,ms,e,sm _ _ h1,sm _ _ h2,h3⟩;have mem:∀{its:List Value} {kss:List (List Int)},Paired (fun k ks=>∃l,cY H0 k ks [.ref l]) its kss->∀v∈its,∃ks l,ks∈kss/\cY H v ks [.ref l]:=fun {its}=>by
  induction its with
  |nil=>intro kss p v hv;cases hv
  |cons w its ih=>
   intro kss p v hv;cases p with
   |cons h t=>
    rcases Tp.mp hv with rfl | hv
    ·obtain⟨l,h⟩:=h;exact⟨_,l,To,up2 h⟩
    ·obtain⟨ks,l,m,z⟩:=ih t v hv;exact⟨ks,l,Tq _ m,z⟩
 have uniq:∀{its:List Value} {kss:List (List Int)},Paired (fun k ks=>∃l,cY H0 k ks [.ref l]) its kss->kss.Nodup->∀v∈its,∀w∈its,∀ks l l',cY H v ks [.ref l]->cY H w ks [.ref l']->v=w:=fun {its}=>by
  induction its with
  |nil=>intro kss p _ v hv;cases hv
  |cons x its ih=>
   intro kss p nd v hv w hw ks l l' kv kw;have same:∀{v:Value} {ks ms:List Int} {r r':List V},cY H v ks r->cY H v ms r'->ks=ms:=fun {v ks ms r r'} ⟨a,b,n,ns,e,h1,h2,h3⟩ ⟨a',b',n',ns',e',h1',h2',h3'⟩=>by
    rw[e]at e';cases e';rw[h1]at h1';cases h1';rw[h2]at h2';have:ns.map V.int=ns'.map V.int:=by injection h2' with z;injection z
    have inj:ns=ns':=by have:=congrArg jW this;rw[gC,gC]at this;exact Option.some.inj this
    rw[h3,h3',inj]
   cases p with
   |cons h t=>
    rename_i k0 S_;obtain⟨l0,h⟩:=h;obtain⟨nd1,nd2⟩:=UB.mp nd;rcases Tp.mp hv with e0 | hv'
    ·rcases Tp.mp hw with e3 | hw'
     ·rw[e0,e3]
     ·obtain⟨ks',l2,m,z⟩:=mem t w hw';rw[e0]at kv;have e1:=same kv (up2 h);have e2:=same kw z;rw[<- e2,e1]at m;exact absurd m nd1
    ·rcases Tp.mp hw with e0 | hw'
     ·obtain⟨ks',l2,m,z⟩:=mem t v hv';rw[e0]at kw;have e1:=same kw (up2 h);have e2:=same kv z;rw[<- e2,e1]at m;exact absurd m nd1
     ·exact ih t nd2 v hv' w hw' ks l l' kv kw
 let ok:Addr->Bool:=fun a=>its.any fun v=>v == .ref a
 have okT:∀v∈its,∀a,v=.ref a->ok a=true:=fun v hv a e=>by subst e;exact V6.mpr ⟨_,hv,by simp⟩
 have okI:∀a,ok a=true->TZ a∈its:=fun a h=>by
  obtain⟨v,hv,e⟩:=V6.mp h;have:v=.ref a:=by simpa using e
  subst this;exact hv
 have hkeys:KeysOf (b9 H ok) (pairsOf its):=fun q hq=>by obtain⟨e1,hm⟩:=AK hq;obtain⟨ks,l,_,z⟩:=mem pk1 q.1 hm;exact⟨ks,nB z (okT _ hm)⟩
 have hu:X.A.in1.in1.units<cLine:=by have:=hr.units;show X.A.units+1+1<_;lia
 refine Ts.xE (κ:=b9 H ok) (kd:=tuples' true) pl.isList (by lia) hkeys (fun h' kp h2 {Q'} {E'} hq'=>?_) (fun E' h' kp=>?_) fun st' hp hs=>?_
 ·exact Jy (s:={ s with heap:=h' }) I.hok kp (fun v hv=>by obtain⟨ks,l,_,z⟩:=mem pk1 v hv;exact⟨ks,_,z⟩) h2 hq'
 ·refine qA fun x y kx ky {Q'} {E''} hx hy q=>?_;obtain⟨r1,a1,e1,o1,k1⟩:=gF hx;obtain⟨r2,a2,e2,o2,k2⟩:=gF hy;have m1:x.1∈its:=by rw[e1];exact okI _ o1
  have m2:y.1∈its:=by rw[e2];exact okI _ o2
  obtain⟨ks1,l1,_,z1⟩:=mem pk1 _ m1;obtain⟨ks2,l2,_,z2⟩:=mem pk1 _ m2;have Du:∀{v:Value} {ks ms:List Int} {r r':List V},cY H v ks r->cY H v ms r'->r=r':=fun {v ks ms r r'} ⟨a,b,n,ns,e,h1,h2,h3⟩ ⟨a',b',n',ns',e',h1',h2',h3'⟩=>by rw[e]at e';cases e';rw[h1]at h1';cases h1';rfl
  have q1:=Du k1 z1;have q2:=Du k2 z2;subst q1 q2;refine lt2 (s:={ s with heap:=h' }) hu I.hok kp k1 k2 rfl (fun e=>?_) q;subst e;have:=uniq pk1 nd _ m1 _ m2 _ _ _ k1 k2;rw[this]at k1;have:=Du k1 k2;exact⟨[l2],this,rfl⟩
 ·have hs':Ts.Seg (b9 H ok) (arrOf st') 0 (arrOf st').size:=by rw[hp.size_eq];exact hs
  have pk2:Paired (fun k ks=>∃r,cY H k ks r) its kss:=Paired.zU pk1 fun k ks ⟨l,z⟩=>⟨_,up2 z⟩;obtain⟨zs,out,eo,vo,lz,rz⟩:=qM (H0:=H0) pk2 rv ra hk nd okT hp hs';rw[eo];obtain⟨c,hc⟩:=sortedAll_at s.heap its out.toArray;have hl:H (s.heap.objs.size+1)=none:=I.hok.fresh (V1 _);have hz2:zs.length<=sizeLine:=by rw[lz];exact hzz
  exact⟨.ref (s.heap.objs.size+1),_,I.laid (t':=s.toks) (fun _ _=>sortedAll_old) (V1 _) (show aR X.prog X.w _ _ _ (.lst zs) from ⟨hz2,out,c,vo,hc⟩),rfl,kk _ H0 _ (aJ.jJ sm hl) ⟨_,rfl,hl,sm.free hl,_,ak,rz⟩⟩
theorem Hv{e:Expr}{fs:List FE}{p pos:Pos}{k:Nat}(hr:aT k X.A)(hg:Gl X "sorted")(hm:X.mg "sorted" = none)(ha:DA X [e] fs)(he:starEach [e] X.env=[(false,eval e X.env)]:=by rfl)(Dy:(backTo pos (starEach [] X.env)).any (·.1)=false:=by rfl) :
  DE X (.Call (.Name "sorted" p) [e] [] pos) (Dm.eB (Dm.cE Dm.uT) fs):=wZ (xH hr) (JA _) (by rfl) hg hm ha (he:=he) (Dy:=Dy)
end
section
variable{α β:Type}{d:Dat}
theorem Hw{P:Program}{w:World}{K:eg}{mg:Str->Option Value}{base:Heap}{f c:Addr}{qual:Str}{params:Arguments}{body:Expr}{scope:Scope}{pm ct:Value}{N ps:List Str}{k:Nat}{A:Around}{outer:List Env}{s:Shared}{H:Hp}
  {args:Args} {us:List Value} {vs:List V} {t:TE} {Q:VK} (S:au N ps scope) (hr:aT k A) (e0:tT P w K mg base A outer s H)
  (ho:s.heap.get? f=some (PySem.W.kla_obj "<lambda>" qual params body scope [] pm c ct)) (MZ:s.heap.CodeRec (.ref c) qual)
  (hb:bindArgs (W6 "<lambda>" qual params body scope [] pm (.ref c) ct) args=pure (ps.zip us)) (r:Vals vs us) (hl:vs.length=ps.length)
  (hbody:PE (dc CX0 P w K mg base N qual scope f (.ref c) A outer s H E0).nox body t) (hq:t (start N vs) H Q) :
  codeAny (model P w) A (.call (.ref f) args) (CR CX0 outer P w H s Q E0) s:=by
 have lim:s.heap.NoLimit:=e0.mod.nolimit.keeps fun b o e=>(e0.bs b o e).1;have hkind:∀y∈ps.zip us,scope.names.lookup y.1=some .local\/(scope.names.lookup y.1=some .cell/\((cellsFrom (s.heap.objs.size+1) scope.names []).lookup y.1).isSome=true):=fun⟨n,v⟩ hy=>by
  rcases S.par n (Vh hy).1 with q | q
  ·exact .inl q
  ·exact .inr ⟨q,VY _ _ _ (.inl q)⟩
 refine PySem.W.kla_callFunE hr.depth ho rfl S.co S.gen rfl MZ ?_;rw[hb];refine wpAny_pure (wpAny_newFunctionEnv_cells S.kind hkind fun env he s1 x=>?_);subst he;refine⟨lim.keeps x.toInCall.keep,PySem.W.kla_codeExpr ?_⟩;have I:Inv (dc CX0 P w K mg base N qual scope f (.ref c) A outer s H E0) [] (start N vs) H s1:=qj S hr.hd e0 hl r x;refine wpAny_mono (hbody.nox [] s1 (start N vs) H _ I hq) (fun u s' hs=>?_) fun e s' hs=>hs;obtain⟨v,H',J,rv,q⟩:=hs;exact⟨v,H',J.os,J.bare,J.base,J.hok,rv,q⟩
theorem Dl{fk:FE}{ks:List Int}(e:Dm.xG fk d=some ks):∃n ds ms ρ',fk [.sh d]=some (.val (.tup [.int n,.tup ds]),ρ')/\Dm.dQ ds=some ms/\ks=n::ms:=by
 unfold Dm.xG at e;split at e
 ·rename_i n ds ρ' h;cases q:Dm.dQ ds with
  |none=>rw[q]at e;cases e
  |some ms=>rw[q]at e;cases e;exact⟨n,ds,ms,_,h,q,rfl⟩
 ·cases e
theorem lG{F:α->β->Prop}:∀{l:List α} {m:List β} {a:α} {b:β},Paired F l m->F a b->Paired F (l++[a]) (m++[b])
 |_,_,_,_,.nil,h=>.cons h .nil
 |_,_,_,_,.cons x r,h=>.cons x (lG r h)
theorem iy{F:α->β->Prop}:∀{l:List α} {m:List β},Paired F l m->l.length=m.length
 |_,_,.nil=>rfl
 |_,_,.cons _ r=>by simp[iy r]
theorem fm{F:α->β->Prop}:∀{l:List α} {m:List β},Paired F l m->∀a∈l,∃b∈m,F a b
 |_,_,.cons h r,a,ha=>by
  rcases Tp.mp ha with rfl | ha
  ·exact⟨_,To,h⟩
  ·obtain⟨b,hb,z⟩:=fm r a ha;exact⟨b,Tq _ hb,z⟩
theorem Hx{H0 H:Hp}{u:V}{x:Str}(sm:av H0 H)(r:Rep H0 u d):ay H0 H (start [x] [u]) [.sh d] where
 same:=sm
 len:=rfl
 sh:=fun i e h=>by
  cases i with
  |zero=>cases h;exact⟨u,rfl,r⟩
  |succ i=>simp at h
 ow:=fun i e h=>by
  cases i with
  |zero=>cases h
  |succ i=>simp at h
 dis:=fun i j e e' a h=>by
  cases i with
  |zero=>cases h
  |succ i=>simp at h
end
section
variable{X:Cx}
def KJ(X:Cx)(uV:List (Addr×Obj))(σ:L2.St)(H2:Hp)(kss:List (List Int))(a kS:Addr)(s':Shared)(keys:List Value):Prop:=
 ∃H',Inv X uV σ H' s'/\av H2 H'/\(∀b,b=a\/b=kS->mG X uV H' b/\∃o,s'.heap.get? b=some o)/\∃done Du,kss=done++Du/\Paired (fun k ks=>∃r,r=[]/\cY H' k ks r) keys done
theorem xJ{k:Nat}{x:Str}{params:Arguments}{body:Expr}{scope:Scope}{fk:FE}{uV:List (Addr×Obj)}{σ:L2.St}{H1 H2:Hp}{s:Shared}{vs:List V}{us:List Value}{Q:VK}{fa c P0:Addr}{ct:Value}(hr:aT (k+3) X.A)
  (S:au [x] [x] scope) (hbind:∀(pm:Value) (c:Addr) (ct v:Value),bindArgs (W6 "<lambda>" (X.env.qual ++ "<lambda>") params body scope [] pm (.ref c) ct) ⟨[v],[]⟩=pure [(x,v)])
  (hb:∀(fa c:Addr) (A:Around) (outer:List Env) (s:Shared) (H:Hp),aT k A->DE (dc CX0 X.prog X.w X.K X.mg X.base [x] (X.env.qual ++ "<lambda>") scope fa (.ref c) A outer s H E0).nox body fk)
  (I2:Inv X ((fa,fZ X params body scope c ct)::uV) σ H2 s) (lc:xF H2 P0 c (X.env.qual ++ "<lambda>")) (s12:av H1 H2) (fr1:∀b,s.heap.objs.size<=b->H1 b=none) (rv0:Vals vs us) (q:rD (Dm.cE (Dm.xG fk)) vs H1 Q) :
  wpAny (model X.prog X.w) X.A (call (.builtin "sorted") us [(WM "key",.ref fa)]) (EP X uV σ Q) X.xe s:=by
 obtain⟨H0,ds,z,sm,rs,e,kk⟩:=q;obtain⟨xd,kss,rfl,hz,hk,nd,rfl⟩:=lF e;cases rs with
 |cons r1 rr=>
 cases rr;obtain⟨l,ys,rfl,qa,ra⟩:=br sm r1;obtain⟨u,rfl,rx⟩:=vals1 rv0;cases rx;have qa2:Rd H2 l (.lst ys):=qa.elim (fun z=>.inl (s12 _ _ z)) fun⟨o,z⟩=>.inr ⟨o,s12 _ _ z⟩;obtain⟨its,rv,pl,hzz⟩:=I2.list (.inl qa2);have xM:=rv.length;have hlen2:=ra.length;obtain⟨kl,kat⟩:=Dm.qJ hk;have sm2:av H0 H2:=fun b o e=>s12 _ _ (sm _ _ e);have hA2:aT k X.A.in1.in1:=(hr.mono (by lia:k+2<=k+3)).in1.in1;have hu:X.A.in1.in1.units<cLine:=hA2.K4;refine Ts.xD (q:=fa) (KJ X ((fa,fZ X params body scope c ct)::uV) σ H2 kss) pl.isList (by lia) (fun h' kp g1 g2=>?_) (fun a kS s' h'' keys ea ek hj kp g1 g2=>?_) (fun a kS i v keys s' ea ek hv hi hj=>?_) fun a kS s' keys E ea ek hj hkl=>?_
 ·refine⟨H2,I2.kept (t':=s.toks) kp,av.refl _,fun b hb=>?_,[],kss,rfl,.nil⟩;have hge:s.heap.objs.size<=b:=by rcases hb with rfl | rfl<;>lia
  refine⟨I2.tP hge (I2.hok.fresh hge),?_⟩;rcases hb with rfl | rfl
  ·exact g1
  ·exact g2
 ·obtain⟨H',I',s',fp,r⟩:=hj;refine⟨H',ig (fp:=[a,kS]) (t':=_) I' (fun b hb=>(fp b (by simpa using hb)).1) fun b u hb e=>kp b u (fun z=>hb (by simp[z])) (fun z=>hb (by simp[z])) e,s',fun b hb=>⟨(fp b hb).1,by rcases hb with rfl | rfl;exact g1;exact g2⟩,r⟩
 ·obtain⟨H',I',s',fp,done,Du,AV,pk⟩:=hj;have hil:i<its.length:=(Tj.mp hv).1;obtain⟨u,hu1,ru⟩:∃u,ys[i]?=some u/\RelV u v:=by
   have hi':i<ys.length:=by lia
   obtain⟨v',e1,e2⟩:=rv.get (Tv hi');rw[hv]at e1;cases e1;exact⟨_,Tv hi',e2⟩
  obtain⟨d,hd1,rd⟩:=aD.OH ra hu1;obtain⟨ks,hks,kd⟩:=kat i d hd1;obtain⟨n,dl,ms,ρ',ef,ei,rfl⟩:=Dl kd;have pin:=I'.pin (fa,fZ X params body scope c ct) (TY _ To);have sm':av H0 H':=fun b o e=>s' _ _ (sm2 _ _ e);have hq:tD fk (start [x] [u]) H' (fun v H''=>av H' H''/\∃(ad bd:Addr),v=.ref ad/\H'' ad=some (.tup [.int n,.ref bd])/\H'' bd=some (.tup (ms.map V.int))):=by
   refine⟨H0,[.sh d],_,ρ',Hx sm' rd,ef,fun v H0' H'' es rep=>?_⟩;refine⟨fun b o e=>es.stp.s1 b o e fun⟨j,d',h1,_⟩=>?_,?_⟩
   ·cases j with
    |zero=>cases h1
    |succ j=>simp at h1
   ·have Ga:Rep H0' v (.tup [.int n,.tup dl]):=rep;cases Ga with
    |tup h1 rs=>
     cases rs with
     |cons r1 rs=>
     cases rs with
     |cons r2 rs=>
     cases rs;cases r1;cases r2 with
     |tup h2 rs2=>have:=jS rs2 ei;subst this;exact⟨_,_,rfl,es.st.same _ _ h1,es.st.same _ _ h2⟩
  refine wpAny_call (codeAny_mono (Hw (us:=[v]) (vs:=[u]) S hA2 I'.F0.in1.in1 pin.1 ((lc.mono s').rec I'.hok) (hbind _ _ _ _) (.cons ru .nil) rfl (hb _ _ _ _ _ _ hA2) hq) fun r s'' hcr=>?_);cases r with
  |error e=>exact(show False from hcr)
  |ok fl=>
   cases fl with
   |next=>exact hcr
   |brk=>exact hcr
   |cont=>exact hcr
   |ret uv=>
    obtain⟨v',H'',os,bare,un,hok,rv',sm3,ad,bd,rfl,h1,h2⟩:=hcr;cases rv';have I'':Inv X ((fa,fZ X params body scope c ct)::uV) σ H'' s'':=by obtain⟨hh,g,dd,tt,os'⟩:=s'';obtain rfl:os'=_:=os;exact I'.call (ch:=[]) un hok bare (fun b z=>absurd z (by simp))
    have nfr:∀b,b=a\/b=kS->b∉frs X.stack:=fun b hb z=>(Tp.mp (I'.kr b z)).elim (fp b hb).1.2.1 (fp b hb).1.2.2.1;refine⟨⟨H'',I'',fun b o e=>sm3 _ _ (s' _ _ e),fun b hb=>?_,done++[n::ms],Du.tail,?_,?_⟩,fun b o hb e=>un.keep b o e (fp b hb).1.1 (nfr b hb) (by simp)⟩
    ·obtain⟨⟨f0,f1⟩,o,eo⟩:=fp b hb;exact⟨⟨un.free b o eo f0 (by simp),f1⟩,o,un.keep b o eo f0 (nfr b hb) (by simp)⟩
    ·have hl:=iy pk;rw[AV,hi.symm,hl,Tt (Nat.le_refl _),VF]at hks;cases Du with
     |nil=>cases hks
     |cons y Du=>cases hks;rw[AV,UU];rfl
    ·refine lG (Paired.zU pk fun k ks ⟨r,er,a1,b1,n1,m1,e1,g1,g2,g3⟩=>⟨r,er,a1,b1,n1,m1,e1,sm3 _ _ g1,sm3 _ _ g2,g3⟩) ⟨[],rfl,ad,bd,n,ms,rfl,h1,h2,rfl⟩
 ·obtain⟨H',I',sH,fp,done,Du,AV,pk⟩:=hj;have hl:=iy pk;have er:Du=[]:=by
   have:=congrArg List.length AV;rw[Tz]at this;exact List.eq_nil_of_length_eq_zero (by lia)
  subst er;rw[Uc]at AV;subst AV
  let ok:Addr->Bool:=fun a=>keys.any fun v=>v == .ref a
  have okT:∀v∈keys,∀a,v=.ref a->ok a=true:=fun v hv a e=>by subst e;exact V6.mpr ⟨_,hv,by simp⟩
  have okI:∀a,ok a=true->TZ a∈keys:=fun a h=>by
   obtain⟨v,hv,e⟩:=V6.mp h;have:v=.ref a:=by simpa using e
   subst this;exact hv
  have pk2:Paired (fun k ks=>∃r,cY H' k ks r) keys kss:=Paired.zU pk fun k ks ⟨r,_,z⟩=>⟨r,z⟩;have nil:∀{v:Value} {ks:List Int} {r:List V},v∈keys->cY H' v ks r->r=[]:=fun {v ks r} hv ⟨a,b,n,ns,e,h1,h2,h3⟩=>by obtain⟨ks',_,r',er,a',b',n',ns',e',h1',_⟩:=fm pk v hv;rw[e]at e';cases e';rw[h1]at h1';cases h1';exact er
  refine⟨b9 H' ok,tuples' true,fun q hq=>?_,fun h2 Q' hq'=>?_,qA fun x y kx ky {Q'} {E''} hx hy q=>?_,fun xs h'' hp hs kp Tc hc=>?_⟩
  ·rw[show (keys.toArray.zip its.toArray).toList=keys.zip its by simp]at hq;obtain⟨x,y⟩:=q;have hm:=(Vh hq).1;obtain⟨ks,_,r,z⟩:=fm pk2 x hm;exact⟨ks,nB z (okT _ hm)⟩
  ·exact Jy I'.hok (fun _ _ e=>e) (fun v hv=>by obtain⟨ks,_,r,z⟩:=fm pk2 v hv;exact⟨ks,r,z⟩) (by lia) hq'
  ·obtain⟨r1,a1,e1,o1,k1⟩:=gF hx;obtain⟨r2,a2,e2,o2,k2⟩:=gF hy;have m1:=nil (by rw[e1];exact okI _ o1) k1;have m2:=nil (by rw[e2];exact okI _ o2) k2;subst m1 m2;exact lt2 hu I'.hok (fun _ _ e=>e) k1 k2 rfl (fun _=>⟨[],rfl,rfl⟩) q
  ·obtain⟨zs,out,eo,vo,lz,rz⟩:=qM (H0:=H0) pk2 rv ra hk nd okT hp hs;obtain⟨c',hc⟩:=hc;rw[eo]at hc;have I3:=ig (fp:=[a,kS]) (t':=s'.toks) I' (fun b hb=>(fp b (by simpa using hb)).1) fun b u hb e=>kp b u (fun z=>hb (by simp[z])) (fun z=>hb (by simp[z])) e;obtain⟨f0,f1,f2,f3,f4,f5⟩:=(fp a (.inl rfl)).1;have hge:s.heap.objs.size<=a:=by lia
   have n0:X.s₀.heap.get? a=none:=V9 (Nat.le_trans I2.sz hge);have new:aR X.prog X.w (upd H' a (.lst zs)) h'' a (.lst zs):=⟨by rw[lz];exact hzz,out,c',vo,hc⟩
   have I4:=Inv.Jm I3 (o:=.lst zs) f0 new n0 f1 f4 f5;have I5:Inv X uV σ (upd H' a (.lst zs)) { s' with heap:=h'',toks:=s'.toks }:=I4.lW fun p hp=>I4.pin p (TY _ (Tq _ hp));have h1a:H1 a=none:=fr1 a hge;have sm1:av H1 H':=fun b o e=>sH _ _ (s12 _ _ e);have SI:∀b o,H' b=some o->b≠a:=fun b o e z=>by rw[z,f0]at e;cases e
   refine⟨.ref a,_,I5,rfl,kk _ H0 _ ⟨av.refl _,fun b o e=>?_,fun b o e=>.inr e,fun b o e=>?_⟩ ⟨a,rfl,h1a,sm.free h1a,zs,ak,rz⟩⟩
   ·rw[aj (SI b o (sm1 _ _ e))];exact sm1 _ _ e
   ·have:=sm1 _ _ (sm _ _ e);rw[aj (SI b o this)];exact this
theorem Hy{k:Nat}{x:Str}{e:Expr}{params:Arguments}{body:Expr}{scope:Scope}{f fk:FE}{p pos kpos jY:Pos}{P0:Addr}(hr:aT (k+3) X.A)(hg:Gl X "sorted")(hm:X.mg "sorted" = none)
  (tb:MN X.mg X.base X.env.code P0) (ht:X.H₀ P0=some (.tbl (rawInt jY.line) (rawInt jY.col) (X.env.qual ++ "<lambda>")))
  (S:au [x] [x] scope) (hbind:∀(pm:Value) (c:Addr) (ct v:Value),bindArgs (W6 "<lambda>" (X.env.qual ++ "<lambda>") params body scope [] pm (.ref c) ct) ⟨[v],[]⟩=pure [(x,v)])
  (ha:DA X [e] [f])
  (hb:∀(fa c:Addr) (A:Around) (outer:List Env) (s:Shared) (H:Hp),aT k A->DE (dc CX0 X.prog X.w X.K X.mg X.base [x] (X.env.qual ++ "<lambda>") scope fa (.ref c) A outer s H E0).nox body fk)
  (hcl:closureFor scope X.env=pure []:=by rfl) (hdef:defaultsOf params X.env=([],[]):=by rfl)
  (he:backTo pos (starEach [e] X.env)=(false,eval e X.env)::backTo pos (starEach [] X.env):=by rfl) (Dy:(backTo pos (starEach [e] X.env)).any (·.1)=false:=by rfl) :
  DE X (.Call (.Name "sorted" p) [e] [⟨some "key",.Lambda params body scope jY,kpos⟩] pos) (Dm.eB (Dm.cE (Dm.xG fk)) [f]):=by
 intro uV s σ H Q I h;have h':=Gb (JA _) h;refine wpAny_Call_Name_kw (cN I hg hm (by rfl) ?_ (by decide) (by decide));refine PyProof.Rows.callWith_kw (thn (ha pos uV s σ H _ I h') fun us s1 ⟨vs,H1,I1,r1,q1⟩=>?_) he Dy rfl rfl;refine kws_cons (Dh I1 tb hcl hdef (I1.base.jy _ _ _ _ ht) fun fa c ct H2 s2 I2 lc sm sz=>?_);exact kws_nil (xJ hr S hbind hb I2 lc sm (fun b hb=>I1.hok.fresh (Nat.le_trans sz hb)) r1 q1)
end
structure TbZ where
 c:Addr
 P:Addr
 ln:Value
 cl:Value
 q:Str
def Tbs(tb:List TbZ)(H:Hp):Prop:=∀z∈tb,H z.P=some (.tbl z.ln z.cl z.q)
def lH(mg:Str->Option Value)(base:Heap)(z:TbZ):Prop:=Wn base z.c z.P/\base.BuiltinsAt mg z.P
def spT(tb:List TbZ)(g:List Dat->Option RV):Sp:=fun vs H Q E=>Tbs tb H/\spD g vs H Q E
theorem lH.tab{mg:Str->Option Value}{base:Heap}{z:TbZ}{cd:Value}(b:lH mg base z)(e:cd=.ref z.c):MN mg base cd z.P:=⟨⟨_,e,b.1⟩,b.2⟩
section
variable{X:Cx}
section
variable{g:List Dat->Option RV}{fd:FuncData}{ps:List Str}{F:Addr}{x:Str}{k:Nat}
def Sw(tb:List TbZ)(t:TA):TA:=fun σ H Q=>t σ H fun vs H1=>Tbs tb H1->Q vs H1
theorem PA.inv{es:List Expr}{t:TA}{tb:List TbZ}(h:PA X es t)(ht:Tbs tb X.H₀):PA X es (Sw tb t):=fun pos uV s σ H Q I q=>thn (h pos uV s σ H _ I q) fun us s1 ⟨vs,H1,I1,r,q1⟩=>⟨vs,H1,I1,r,q1 fun z hz=>I1.base.jy _ _ _ _ (ht z hz)⟩
variable{e:Expr}{es:List Expr}{fs:List FE}{p pos:Pos}
theorem l_{tb:List TbZ}(ht:Tbs tb X.H₀)(G:aK X.prog X.w X.K X.mg X.base CX0 k F fd ps (spT tb g))(hr:aT k X.A)(hg:Gl X x)(hm:X.mg x=some (.ref F))(hk:Ul X.K (.ref F)=true)(hb:Binds X.K fd ps [])
  (ha:DA X (e::es) fs) (MO:(x == ("__debug__" : Str))=false:=by decide) (he:starEach (e::es) X.env=(false,eval e X.env)::starEach es X.env:=by rfl) (Dy:(backTo pos (starEach es X.env)).any (·.1)=false:=by rfl) :
  DE X (.Call (.Name x p) (e::es) [] pos) (Dm.eF g fs):=PE.weak (gw G hr hg hm hk hb .nil (qm (X:=X)) (PA.inv ha ht) MO he Dy) fun σ H Q h=>by
 obtain⟨H0,ρ,xs,ρ',st,e,k⟩:=wV (E:=E0) h;exact⟨H0,ρ,xs,ρ',st,e,fun vs H0' H' es rs ht=>⟨ht,k vs H0' H' es rs⟩⟩
theorem Dq{c:Int}{tk:Tok}{tb:List TbZ}(ht:Tbs tb X.H₀)(G:aK X.prog X.w X.K X.mg X.base CX0 k F fd ps (spT tb g))(hr:aT k X.A)(hg:Gl X x)(hm:X.mg x=some (.ref F))(hk:Ul X.K (.ref F)=true)(hb:Binds X.K fd ps [.int c tk])
  (ha:DA X (e::es) fs) (MO:(x == ("__debug__" : Str))=false:=by decide) (he:starEach (e::es) X.env=(false,eval e X.env)::starEach es X.env:=by rfl) (Dy:(backTo pos (starEach es X.env)).any (·.1)=false:=by rfl) :
  DE X (.Call (.Name x p) (e::es) [] pos) (Dm.eF (fun ds=>g (ds++[.int c])) fs):=PE.weak (gw G hr hg hm hk hb (dvs:=[.int c]) (.cons (show RelV (.int c) (.int c tk) from ⟨tk,rfl⟩) .nil) (qm (X:=X)) (PA.inv ha ht) MO he Dy) fun σ H Q h=>by
 obtain⟨H0,ρ,xs,ρ',st,e,k⟩:=G6 (E:=E0) h;exact⟨H0,ρ,xs,ρ',st,e,fun vs H0' H' es rs ht=>⟨ht,k vs H0' H' es rs⟩⟩
end
end
section
variable{P:Program}{w:World}{K:eg}{mg:Str->Option Value}{base:Heap}
section
variable{g:List Dat->Option RV}{N ps:List Str}{fd:FuncData}{x qual:Str}{st:Stmt}{f:Addr}
theorem AO.okT{k:Nat}{tb:List TbZ}(F:AO K x qual st f fd)(S:au N ps (ah st))(len:∀vs H Q E,spD g vs H Q E->vs.length=ps.length)
  (hbody:∀ (cdv:Value) (A:Around) (outer:List Env) (s:Shared) (H:Hp) (vs:List V) (Q:VK) (E:XK),cdv=fd.code→aT k (A.deeper (envOfC qual (ah st) s.heap.objs.size f cdv))→Tbs tb H→spD g vs H Q E →
   ∃t,PSs (dc CX0 P w K mg base N qual (ah st) f cdv A outer s H E).nox (aI st) t/\t { nx:=fun _ H'=>Q .non H',rt:=Q } (start N vs) H):aK P w K mg base CX0 (k+1) f fd ps (spT tb g):=by
 obtain⟨oc,od,dV,kV,doc,pm,an,cdv,ct,osl,rfl,lk,MZ⟩:=F.ex;refine tW lk MZ S (fun vs H Q E h=>len vs H Q E h.2) fun A outer s H vs Q E hr hsp=>?_;obtain⟨t,h,q⟩:=hbody cdv A outer s H vs Q E rfl hr hsp.1 hsp.2;exact⟨t,h.nox,q⟩
theorem zd{k:Nat}{tb:List TbZ}(F:Fun K x qual st f fd)(S:au N ps (ah st))(len:∀vs H Q E,spD g vs H Q E->vs.length=ps.length)
  (hbody:∀ (cdv:Value) (A:Around) (outer:List Env) (s:Shared) (H:Hp) (vs:List V) (Q:VK) (E:XK),cdv=fd.code→aT k (A.deeper (envOfC qual (ah st) s.heap.objs.size f cdv))→Tbs tb H→spD g vs H Q E →
   ∃t,PSs (dc CX0 P w K mg base N qual (ah st) f cdv A outer s H E).nox (aI st) t/\t { nx:=fun _ H'=>Q .non H',rt:=Q } (start N vs) H):aK P w K mg base CX0 (k+1) f fd ps (spT tb g):=by
 obtain⟨oc,od,kV,doc,pm,an,cdv,ct,osl,rfl,lk,MZ⟩:=F.ex;refine tW lk MZ S (fun vs H Q E h=>len vs H Q E h.2) fun A outer s H vs Q E hr hsp=>?_;obtain⟨t,h,q⟩:=hbody cdv A outer s H vs Q E rfl hr hsp.1 hsp.2;exact⟨t,h.nox,q⟩
end
end
theorem AW{P:Program}{w:World}{K:eg}{mg mb:Str->Option Value}{k:Nat}{fa a:Addr}{fd:FuncData}{x:Str}{g:List Dat->Option RV}{tb:List TbZ}{s₁:Shared}{vs:List Value}{ns:List Int}
  (KX:K.In s₁.heap) (hns:s₁.heap.Ns mainGlobals mg) (hb:s₁.heap.Ns builtinsNs mb) (hbb:∀x:Str,x ≠ "__name__" -> mb x=bootBuiltins x) (hlim:s₁.heap.NoLimit) (hg:s₁.gens=#[])
  (hbm:∃bm ob,mg "__builtins__" = some (.ref bm)/\bm≠builtinsNs/\s₁.heap.get? bm=some ob/\ob.cls=.type "module" /\ ob.dict=some builtinsNs/\ob.data=.plain)
  (ha:s₁.heap.get? a=some { cls:=.type "list",data:=.seq vs.toArray }) (hi:IntsAre vs ns) (hl:ns.length<=sizeLine) (hr:aT k callerA)
  (hT:∀z∈tb,Wn s₁.heap z.c z.P/\s₁.heap.get? z.P=some (Wo #[])) (hnd:(tb.map (·.P)).Nodup) (hKt:W7 K=true)
  (F:∀base:Heap,K.In base->base.Ns mainGlobals mg->(∀z∈tb,lH mg base z)->aK P w K mg base CX0 k fa fd [x] (spT tb g)) (hbind:∀(s:Shared) (u:Value),BindsTo s fd ⟨[u],[]⟩ [(x,u)])
  (hsp:∀H:Hp,SqL K H a (ns.map V.int)->spD g [.ref a] H (fun v _=>v=.bl true) fun _ _ _=>False) :
  codeAny (model P w) callerA (.call (.ref fa) ⟨[.ref a],[]⟩) (fun r s'=>r=.ok (.ret (.bool true))/\OldK s₁.heap s'.heap/\s'.os=s₁.os/\AllBare s'.gens) s₁:=by
 have rv:=kP hi;have Sy:=hi.length;have noK:∀b o,K.lookup b=some o->s₁.heap.get? b=some (Wo #[])->False:=fun b o e h=>by have h2:=UE.mp hKt (b,o) (PySem.W.mem_of_lookupK e);have:=KX b o e;rw[h]at this;cases this;exact absurd (show false=true from h2) Ua
 have core:∀H:Hp,(∀z∈tb,H z.P=some (.tbl z.ln z.cl z.q))->SqL K H a (ns.map V.int)->HOk P w H s₁.heap->(∀b u,H b=some u->(b=a/\∃o xs,u=.frz o (.lst xs))\/∃z∈tb,b=z.P/\u=.tbl z.ln z.cl z.q)->(H a≠none->K.lookup a=none) ->
   codeAny (model P w) callerA (.call (.ref fa) ⟨[.ref a],[]⟩) (fun r s'=>r=.ok (.ret (.bool true))/\OldK s₁.heap s'.heap/\s'.os=s₁.os/\AllBare s'.gens) s₁:=by
  intro H hO hS hok hA hK;have mh:∀{b:Addr} {o:Obj},s₁.heap.get? b=some o->H b=none->(pS s₁.heap H).get? b=some o:=fun e n=>Bj e n;have noT:∀{b:Addr} {o:Obj},s₁.heap.get? b=some o->o.cls≠.none->(o.cls≠.type "list")->H b=none:=fun {b o} e h1 h2=>by
   cases q:H b with
   |none=>rfl
   |some u=>
    rcases hA b u q with⟨rfl,_⟩ | ⟨z,hz,rfl,_⟩
    ·rw[ha]at e;cases e;exact absurd rfl h2
    ·rw[(hT z hz).2]at e;cases e;exact absurd rfl h1
  have noA:∀{b:Addr} {o:Obj} {es:Array DictEntry} {ep:Nat},s₁.heap.get? b=some o->o.data=.dict es ep->H b=none:=fun {b o es ep} e d=>by
   cases q:H b with
   |none=>rfl
   |some u=>
    rcases hA b u q with⟨rfl,_⟩ | ⟨z,hz,rfl,_⟩
    ·rw[ha]at e;cases e;cases d
    ·rw[(hT z hz).2]at e;cases e;cases d
  have nsK:∀{b:Addr} {m:Str->Option Value},s₁.heap.Ns b m->(pS s₁.heap H).Ns b m:=fun {b m} ⟨o,es,ep,e,d,r⟩=>⟨o,es,ep,mh e (noA e d),d,r⟩;have hKb:K.In (pS s₁.heap H):=fun b o e=>mh (KX b o e) (by
   cases q:H b with
   |none=>rfl
   |some u=>
    rcases hA b u q with⟨rfl,_⟩ | ⟨z,hz,rfl,_⟩
    ·rw[hK (by rw[q];simp)]at e;cases e
    ·exact(noK _ _ e (hT z hz).2).elim)
  have hM:Mod K mg (pS s₁.heap H):=⟨hKb,nsK hns,⟨mb,nsK hb,hbb⟩,let ⟨mc,h1,h2⟩:=hlim;⟨mc,nsK h1,h2⟩⟩
  have e0:tT P w K mg (pS s₁.heap H) callerA [] s₁ H:=⟨rfl,hM,fun b o e=>FL e,WL (zV _ _),trivial,fun b hb=>absurd (show b∈([]:List Addr) from hb) (by simp),hok,.of_eq hg⟩
  have hBT:∀z∈tb,lH mg (pS s₁.heap H) z:=fun z hz=>by
   obtain⟨o,ws,file,tf,flags,tg,inF,text,tt,e1,r1,r⟩:=(hT z hz).1;obtain⟨bm,ob,b1,b2,b3,b4,b5⟩:=hbm;refine⟨⟨o,ws,file,tf,flags,tg,inF,text,tt,mh e1 (noT e1 (by rw[r1];decide) (by rw[r1];decide)),r1,r⟩,bm,ob,b1,b2,?_,?_,mh b3 (noT b3 (by rw[b4];decide) (by rw[b4];decide)),b4,b5⟩
   ·rintro rfl;obtain⟨o',es,ep,e,d,_⟩:=hns;rw[b3]at e;cases e;rw[b5.2]at d;cases d
   ·rintro rfl;rw[(hT z hz).2]at b3;cases b3;cases b4
  refine codeAny_mono ((F _ hKb (nsK hns) hBT).run callerA [] s₁ H ⟨[.ref a],[]⟩ [.ref a] [.ref a] _ _ hr e0 (hbind s₁ (.ref a)) (.cons rfl .nil) ⟨hO,hsp H hS⟩) fun r s' h=>?_;cases r with
  |error e=>exact(show False from h).elim
  |ok fl=>
   cases fl with
   |next=>exact TF h
   |brk=>exact TF h
   |cont=>exact TF h
   |ret u=>
    obtain⟨v,H',os,bare,un,Qm,r',q⟩:=h;have q':v=.bl true:=q;subst q';obtain rfl:u=Xg true:=r';have all:∀b o,s₁.heap.get? b=some o->asItWas s₁.heap s'.heap b o/\∃o',s'.heap.get? b=some o':=fun b o e=>by
     cases q:H b with
     |none=>have:=un.keep b o e q (by intro z;exact absurd (show b∈([]:List Addr) from z) (by simp)) (by simp);exact⟨.inl this,_,this⟩
     |some u=>
      rcases hA b u q with⟨rfl,ob,xs,rfl⟩ | ⟨z,hz,rfl,rfl⟩
      ·have z2:=un.lQ _ ob _ q;obtain⟨e1,_⟩:=hok _ _ q;obtain⟨e2,_⟩:=Qm _ _ z2;rw[e]at e1;cases e1;exact⟨.inl e2,_,e2⟩
      ·obtain⟨ps,e2,_⟩:=Qm _ _ (un.jy _ _ _ _ q);have e3:=(hT z hz).2;rw[e]at e3;cases e3;exact⟨.inr (.inl ⟨((hT z hz).1.tab (hT z hz).2).isCodeTable,rfl,#[],ps,rfl,by rw[Array.empty_append];exact e2⟩),_,e2⟩
    exact⟨rfl,⟨fun b o e=>(all b o e).1,fun b o e=>(all b o e).2⟩,os,bare⟩
 have aP:∀z∈tb,a≠z.P:=fun z hz e=>by have:=(hT z hz).2;rw[<- e,ha]at this;cases this
 let tf:Hp:=fun b=>(tb.find? fun z=>z.P == b).map fun z=>.tbl z.ln z.cl z.q
 have tfI:∀b u,tf b=some u->∃z∈tb,b=z.P/\u=.tbl z.ln z.cl z.q:=fun b u e=>by obtain⟨z,hz,e⟩:=Option.map_eq_some_iff.mp e;exact⟨z,List.mem_of_find?_eq_some hz,by have:=List.find?_some hz;simpa using(beq_iff_eq.mp this).symm,e.symm⟩
 have tfO:∀z∈tb,tf z.P=some (.tbl z.ln z.cl z.q):=fun z hz=>by
  cases q:tb.find? (fun y=>y.P == z.P) with
  |none=>exact absurd (List.find?_eq_none.mp q z hz) (by simp)
  |some y=>
   have e1:y.P=z.P:=by simpa using List.find?_some q
   have:=Di hnd (List.mem_of_find?_eq_some q) hz e1;subst this;show (tb.find? (fun y'=>y'.P == y.P)).map _=_;rw[q];rfl
 have tfA:tf a=none:=by
  cases q:tf a with
  |none=>rfl
  |some u=>obtain⟨z,hz,e,_⟩:=tfI a u q;exact absurd e (aP z hz)
 have tok:∀(H:Hp) z,z∈tb->aR P w H s₁.heap z.P (.tbl z.ln z.cl z.q):=fun H z hz=>⟨#[],(hT z hz).2,.inl rfl⟩;cases hk:K.lookup a with
 |some o=>have e:=KX a o hk;rw[ha]at e;cases e;refine core tf tfO (.inr ⟨_,vs.toArray,_,hk,rfl,rfl,rfl,by rw[Sx,Sy];exact hl,by simpa using rv⟩) (fun b u z=>?_) (fun b u z=>.inr (tfI b u z)) fun z=>absurd tfA z;obtain⟨y,hy,rfl,rfl⟩:=tfI b u z;exact tok _ y hy
 |none=>
  refine core (upd tf a (.frz { cls:=.type "list",data:=.seq vs.toArray } (.lst (ns.map V.int)))) (fun z hz=>by rw[aj (Ue (aP z hz))];exact tfO z hz) (.inl (.inr ⟨{ cls:=.type "list",data:=.seq vs.toArray },ak⟩)) (fun b u z=>?_) (fun b u z=>?_) fun _=>hk
  ·by_cases hb:b=a
   ·subst hb;rw[ak]at z;cases z;exact⟨ha,by rw[Dp];exact hl,vs,_,rv,ha⟩
   ·rw[aj hb]at z;obtain⟨y,hy,rfl,rfl⟩:=tfI b u z;exact tok _ y hy
  ·by_cases hb:b=a
   ·subst hb;rw[ak]at z;cases z;exact .inl ⟨rfl,_,_,rfl⟩
   ·rw[aj hb]at z;exact .inr (tfI b u z)
theorem Dr{l:WZ}{n k:Nat}{q:Program}{loose:List Str}{XP:(Str->Option Value)->Heap->Prop}{YP:World->Heap->Prop}{d:DefRec}{K:Params->eg}{g:List Dat->Option RV}{tb:List TbZ}{x:Str}
  (hn:l.most=some n) (hn2:n<=sizeLine) (hdf:d.params.defaults=[]) (hr:aT k callerA)
  (hY:∀(w:World) (h:Heap),YP w h->(K w.params).In h) (hT:∀(w:World) (h:Heap),YP w h->∀z∈tb,Wn h z.c z.P/\h.get? z.P=some (Wo #[])) (hnd:(tb.map (·.P)).Nodup) (hKt:∀w:World,W7 (K w.params)=true)
  (F:∀ (w:World) (mg:Str→Option Value) (fa:Addr) (h:Heap),(K w.params).In h→h.Ns mainGlobals mg→mg d.name=some (.ref fa) →
   ∃fd:FuncData,(∀(s:Shared) (u:Value),BindsTo s fd ⟨[u],[]⟩ [(x,u)]) /\
    ∀base:Heap,(K w.params).In base->base.Ns mainGlobals mg->(∀z∈tb,lH mg base z)->aK l.prog w (K w.params) mg base CX0 k fa fd [x] (spT tb g))
  (hsp:∀(w:World) (H:Hp) (a:Addr) (ns:List Int),ns.length<=n->SqL (K w.params) H a (ns.map V.int)->spD g [.ref a] H (fun v _=>v=.bl true) fun _ _ _=>False) :
  PySem.W.WalkO q loose XP YP l.row.toRowW d [] (fun f vs=>PySem.call f vs):=by
 refine Att.t9 hn hdf fun w s₀ s₁ mg mb fa o pm cd doc a vs ns G Y ho hd MZ hmg hobj hints xM hg=>?_;have KX:=hY w _ Y;obtain⟨fd,hb,hF⟩:=F w mg fa _ KX G.T.g hmg;exact AW KX G.T.g G.T.b G.T.builtins G.T.nolimit hg G.T.bmain hobj hints (Nat.le_trans xM hn2) hr (hT w _ Y) hnd (hKt w) hF hb fun H hS=>hsp w H a ns xM hS
theorem okQ{P:Program}{w:World}{K:eg}{mg:Str->Option Value}{base:Heap}{x qual:Str}{st:Stmt}{f:Addr}{fd:FuncData}{N ps:List Str}{k n m:Nat}{body:FS}(F:Fun K x qual st f fd)(S:au N ps (ah st))
  (hb:∀(cdv:Value) (A:Around) (outer:List Env) (s:Shared) (H:Hp) (E:XK),aT k (A.deeper (envOfC qual (ah st) s.heap.objs.size f cdv))->DSs (dc CX0 P w K mg base N qual (ah st) f cdv A outer s H E).nox (aI st) body)
  (hn:ps.length=n:=by rfl) (hm:N.length=n+m:=by rfl):aK P w K mg base CX0 (k+1) f fd ps (spD (Dm.fn n m body)):=
 F.ok S (fun vs H Q E h=>(ic h).trans hn.symm) fun cdv A outer s H vs Q E hr h=>⟨_,hb cdv A outer s H E hr,Aq hm h⟩
end Br
namespace Dm
section
variable{ρ:Env}{K:RV->Prop}{Q:Val->Env->Prop}{o p:Option Dat}{R:RV->Env->Prop}{N:Env->Prop}{B C:Env->Prop}{i j:Int}{α:Type}{d:Dat}{f:List Dat->Option (RV×Dat)}{ds:List Dat}{as:List FE}{a:FE}{xs:List Val}{X Y:Prop}{g:Dat->Option RV}{e:FE}{c:Bool}{body:FS}{v:RV}{t:FT}{ρ2 ρ3:Env}{n m:Nat}{s u:FS}{bd:FB}{it:FI}
def We(e:FE)(ρ:Env)(Q:Val->Env->Prop):Prop:=∃v ρ',e ρ=some (v,ρ')/\Q v ρ'
def Wt(t:FT)(ρ:Env)(Q:Bool->Env->Prop):Prop:=∃v ρ',t ρ=some (v,ρ')/\Q v ρ'
def Was(as:List FE)(ρ:Env)(Q:List Val->Env->Prop):Prop:=∃v ρ',eAs as ρ=some (v,ρ')/\Q v ρ'
def Wi(it:FI)(ρ:Env)(Q:List Dat->Env->Prop):Prop:=∃v ρ',it ρ=some (v,ρ')/\Q v ρ'
def KO(N:Env->Prop)(R:RV->Env->Prop)(B C:Env->Prop):Out->Prop
 |.nx ρ=>N ρ
 |.ret r ρ=>R r ρ
 |.bk ρ=>B ρ
 |.ct ρ=>C ρ
def Ws(s:FS)(ρ:Env)(N:Env->Prop)(R:RV->Env->Prop)(B C:Env->Prop):Prop:=∃o,s ρ=some o/\KO N R B C o
def Wr(o:Option RV)(P:RV->Prop):Prop:=∃r,o=some r/\P r
def Wif(c:Bool)(X Y:Prop):Prop:=(c=true->X)/\(c=false->Y)
def Wg1(g:Dat->Option RV)(o:Option Dat)(K:RV->Prop):Prop:=∃d v,o=some d/\g d=some v/\K v
def Wg2(g:Dat->Dat->Option RV)(o p:Option Dat)(K:RV->Prop):Prop:=∃d e v,o=some d/\p=some e/\g d e=some v/\K v
def WB(g:List Dat->Option RV)(o:Option (List Dat))(K:RV->Prop):Prop:=∃ds v,o=some ds/\g ds=some v/\K v
def WT(o:Option (List Dat×Env))(K:List Dat->Env->Prop):Prop:=∃ds ρ,o=some (ds,ρ)/\ds.length<=SZ/\K ds ρ
def WF(f:List Dat->Option RV)(ρ:Env)(xs:List Val)(Q:Val->Env->Prop):Prop:=∃ds v,pks ρ xs=some ds/\f ds=some v/\(if fH v.dat then ∃ds' ρ2,tks ρ xs=some (ds',ρ2)/\Q v.bH ρ2 else Q v.bH ρ)
def Wk(ρ:Env)(x:Val)(K:Dat->Env->Prop):Prop:=∃d ρ',tk ρ x=some (d,ρ')/\K d ρ'
def Wp(o:Option FE)(ρ:Env)(K:Option Int->Env->Prop):Prop:=∃i ρ',part o ρ=some (i,ρ')/\K i ρ'
theorem XI(x:X):Wif true X Y:=⟨fun _=>x,fun h=>by cases h⟩
theorem XF(y:Y):Wif false X Y:=⟨fun h=>(by cases h),fun _=>y⟩
theorem YF(h:c=true)(x:X):Wif c X Y:=⟨fun _=>x,fun h'=>by rw[h]at h';cases h'⟩
theorem XD(h:c=false)(y:Y):Wif c X Y:=⟨fun h'=>(by rw[h]at h';cases h'),fun _=>y⟩
theorem YD{p:Prop}[Decidable p](x:p->X)(y:¬p->Y):Wif (decide p) X Y:=⟨fun h=>x (of_decide_eq_true h),fun h=>y (of_decide_eq_false h)⟩
theorem U_{i:Nat}(h:ρ[i]?=some (.sh d))(q:Q (.val d) ρ):We (eV i) ρ Q:=⟨_,_,by unfold eV;rw[h],q⟩
theorem XQ{i:Nat}(h:ρ[i]?=some (.ow d))(q:Q (.slot i) ρ):We (eV i) ρ Q:=⟨_,_,by unfold eV;rw[h],q⟩
theorem W_(q:Q (.val d) ρ):We (eC d) ρ Q:=⟨_,_,rfl,q⟩
theorem XJ(h:We a ρ fun x ρ1=>Wg1 g (pk ρ1 x) fun v=>Q v.bH ρ1):We (e1 g a) ρ Q:=by obtain⟨x,ρ1,h1,d,v,h2,h3,q⟩:=h;exact⟨_,_,by unfold Dm.e1;rw[h1];dsimp only;rw[h2];dsimp only;rw[h3],q⟩
theorem V_{g:Dat->Dat->Option RV}{a b:FE}(h:We a ρ fun x ρ1=>We b ρ1 fun y ρ2=>Wg2 g (pk ρ2 x) (pk ρ2 y) fun v=>Q v.bH ρ2):We (e2 g a b) ρ Q:=by obtain⟨x,ρ1,h1,y,ρ2,h2,d,e,v,h3,h4,h5,q⟩:=h;exact⟨_,_,by unfold Dm.e2;rw[h1];dsimp only;rw[h2];dsimp only;rw[h3];dsimp only;rw[h4];dsimp only;rw[h5],q⟩
theorem T_{Q:List Val->Env->Prop}(q:Q [] ρ):Was [] ρ Q:=⟨_,_,rfl,q⟩
theorem m_{r:List FE}{Q:List Val->Env->Prop}(h:We a ρ fun x ρ1=>Was r ρ1 fun xs ρ2=>Q (x::xs) ρ2):Was (a::r) ρ Q:=by obtain⟨x,ρ1,h1,xs,ρ2,h2,q⟩:=h;exact⟨_,_,by unfold eAs;rw[h1];dsimp only;rw[h2],q⟩
theorem Xz{g:List Dat->Option RV}(h:Was as ρ fun xs ρ1=>WB g (pks ρ1 xs) fun v=>Q v.bH ρ1):We (eB g as) ρ Q:=by obtain⟨x,ρ1,h1,d,v,h2,h3,q⟩:=h;exact⟨_,_,by unfold eB;rw[h1];dsimp only;rw[h2];dsimp only;rw[h3],q⟩
theorem Xx(h:Was as ρ fun xs ρ1=>WT (tks ρ1 xs) fun ds ρ2=>Q (.val (.tup ds)) ρ2):We (bg as) ρ Q:=by obtain⟨x,ρ1,h1,ds,ρ2,h2,h3,q⟩:=h;exact⟨_,_,by unfold bg;rw[h1];dsimp only;rw[h2];dsimp only;rw[if_pos h3],q⟩
theorem XG(h:Was as ρ fun xs ρ1=>WT (tks ρ1 xs) fun ds ρ2=>Q (.new (.lst ds)) ρ2):We (bA as) ρ Q:=by obtain⟨x,ρ1,h1,ds,ρ2,h2,h3,q⟩:=h;exact⟨_,_,by unfold bA;rw[h1];dsimp only;rw[h2];dsimp only;rw[if_pos h3],q⟩
theorem Xj{K:List Dat->Env->Prop}(k:K ds ρ3)(h:tks ρ xs=some (ds,ρ2))(hn:ρ2=ρ3)(hl:ds.length<=SZ):WT (tks ρ xs) K:=⟨_,_,hn▸h,hl,k⟩
theorem Xp{f:List Dat->Option RV}(h:Was as ρ fun xs ρ1=>WF f ρ1 xs Q):We (eF f as) ρ Q:=by
 obtain⟨x,ρ1,h1,ds,v,h2,h3,h4⟩:=h;by_cases hb:fH v.dat=true
 ·rw[if_pos hb]at h4;obtain⟨ds',ρ2,h5,q⟩:=h4;exact⟨_,_,by unfold eF;rw[h1];dsimp only;rw[h2];dsimp only;rw[h3];dsimp only;rw[if_pos hb,h5],q⟩
 ·rw[if_neg hb]at h4;exact⟨_,_,by unfold eF;rw[h1];dsimp only;rw[h2];dsimp only;rw[h3];dsimp only;rw[if_neg hb],h4⟩
theorem XC{f:List Dat->Option RV}{ρ ρ2 ρ3:Env}{ds ds':List Dat}(h2:f ds=some v)(q:Q v.bH ρ3)(h1:pks ρ xs=some ds)(h3:fH v.dat=true)(h4:tks ρ xs=some (ds',ρ2))(hn:ρ2=ρ3):WF f ρ xs Q:=
 ⟨_,_,h1,h2,by rw[if_pos h3];exact⟨_,_,h4,hn▸q⟩⟩
theorem Xl{f:List Dat->Option RV}(h2:f ds=some v)(q:Q v.bH ρ)(h1:pks ρ xs=some ds)(h3:fH v.dat=false):WF f ρ xs Q:=
 ⟨_,_,h1,h2,by rw[if_neg (by rw[h3];decide)];exact q⟩
theorem YW{a b:FE}(h:Wt t ρ fun c ρ1=>Wif c (We a ρ1 Q) (We b ρ1 Q)):We (eIf t a b) ρ Q:=by
 obtain⟨c,ρ1,h1,h2,h3⟩:=h;cases c with
 |true=>obtain⟨v,ρ2,h4,q⟩:=h2 rfl;exact⟨_,_,by unfold eIf;rw[h1];exact h4,q⟩
 |false=>obtain⟨v,ρ2,h4,q⟩:=h3 rfl;exact⟨_,_,by unfold eIf;rw[h1];exact h4,q⟩
def Wb(v:Val)(K:Bool->Prop):Prop:=∃c,v=.val (.bl c)/\K c
theorem Xk{K:Bool->Prop}(k:K c):Wb (.val (.bl c)) K:=⟨c,rfl,k⟩
theorem XZ{a b:FE}(h:We a ρ fun v ρ1=>Wb v fun c=>Wif c (We b ρ1 Q) (Q (.val (.bl false)) ρ1)):We (dO a b) ρ Q:=by
 obtain⟨v,ρ1,h1,c,rfl,h2,h3⟩:=h;cases c with
 |true=>obtain⟨v,ρ2,h4,q⟩:=h2 rfl;exact⟨_,_,by unfold dO;rw[h1];exact h4,q⟩
 |false=>exact⟨_,_,by unfold dO;rw[h1],h3 rfl⟩
theorem YM(h:We a ρ fun v ρ1=>Wb v fun c=>Q (.val (.bl (!c))) ρ1):We (Ai a) ρ Q:=by obtain⟨v,ρ1,h1,c,rfl,h2⟩:=h;exact⟨_,_,by unfold Ai;rw[h1],h2⟩
theorem Xq{Q:Bool->Env->Prop}(h:We a ρ fun v ρ1=>Wb v fun c=>Q c ρ1):Wt (tV a) ρ Q:=by obtain⟨v,ρ1,h1,c,rfl,h2⟩:=h;exact⟨_,_,by unfold tV;rw[h1],h2⟩
theorem Xv{Q:Bool->Env->Prop}(h:Wt t ρ fun c ρ1=>Q (!c) ρ1):Wt (eU t) ρ Q:=by obtain⟨v,ρ1,h1,h2⟩:=h;exact⟨_,_,by unfold eU;rw[h1],h2⟩
theorem XM{t u:FT}{Q:Bool->Env->Prop}(h:Wt t ρ fun c ρ1=>Wif c (Q true ρ1) (Wt u ρ1 Q)):Wt (tOr t u) ρ Q:=by
 obtain⟨c,ρ1,h1,h2,h3⟩:=h;cases c with
 |false=>obtain⟨v,ρ2,h4,q⟩:=h3 rfl;exact⟨_,_,by unfold tOr;rw[h1];exact h4,q⟩
 |true=>exact⟨_,_,by unfold tOr;rw[h1],h2 rfl⟩
theorem Yw{Q:Bool->Env->Prop}(q:Q true ρ):Wt bI ρ Q:=⟨_,_,rfl,q⟩
theorem Xu{K:Dat->Env->Prop}(k:K d ρ):Wk ρ (.val d) K:=⟨_,_,rfl,k⟩
theorem X0{K:Dat->Env->Prop}(k:K d ρ):Wk ρ (.new d) K:=⟨_,_,rfl,k⟩
noncomputable def Dt:Dat->Option (List Dat)
 |.lst ds=>some ds
 |.tup ds=>some ds
 |_=>none
theorem Yq{Q:List Dat->Env->Prop}(h:We a ρ fun x ρ1=>Wk ρ1 x fun d ρ2=>∃ds,Dt d=some ds/\Q ds ρ2):Wi (iS a) ρ Q:=by
 obtain⟨x,ρ1,h1,d,ρ2,h2,ds,hd,q⟩:=h;cases d with
 |lst xs=>cases hd;exact⟨_,_,by unfold iS;rw[h1];dsimp only;rw[h2],q⟩
 |tup xs=>cases hd;exact⟨_,_,by unfold iS;rw[h1];dsimp only;rw[h2],q⟩
 |_=>cases hd
def d9(v:Val)(K:Int->Prop):Prop:=∃i,v=.val (.int i)/\K i
theorem d9.mk{i:Int}{K:Int->Prop}(k:K i):d9 (.val (.int i)) K:=⟨i,rfl,k⟩
theorem Yj{Q:List Dat->Env->Prop}(h:We a ρ fun v ρ1=>d9 v fun j=>Q (ups 0 j.toNat) ρ1/\j<=BIG/\-BIG<=j):Wi (iR1 a) ρ Q:=by obtain⟨v,ρ1,h1,j,rfl,q,h2⟩:=h;exact⟨_,_,by unfold iR1;rw[h1];dsimp only;rw[if_pos h2],q⟩
theorem YI{a b:FE}{Q:List Dat->Env->Prop}(h:We a ρ fun v ρ1=>d9 v fun i=>We b ρ1 fun w ρ2=>d9 w fun j=>Q (ups i (j-i).toNat) ρ2/\j<=BIG/\-BIG<=j/\i<=BIG/\-BIG<=i):Wi (iR2 a b) ρ Q:=by obtain⟨v,ρ1,h1,i,rfl,w,ρ2,h2,j,rfl,q,h3⟩:=h;exact⟨_,_,by unfold iR2;rw[h1];dsimp only;rw[h2];dsimp only;rw[if_pos h3],q⟩
theorem Y4{Q:List Dat->Env->Prop}(h:We a ρ fun x ρ1=>Wk ρ1 x fun d ρ2=>∃ds,d=.lst ds/\Q ds.reverse ρ2):Wi (AA a) ρ Q:=by obtain⟨x,ρ1,h1,d,ρ2,h2,ds,rfl,q⟩:=h;exact⟨_,_,by unfold AA;rw[h1];dsimp only;rw[h2],q⟩
theorem Zb{Q:List Dat->Env->Prop}(h:We a ρ fun x ρ1=>Wk ρ1 x fun d ρ2=>∃ds,d=.lst ds/\Q (jQ 0 ds) ρ2):Wi (iEn a) ρ Q:=by obtain⟨x,ρ1,h1,d,ρ2,h2,ds,rfl,q⟩:=h;exact⟨_,_,by unfold iEn;rw[h1];dsimp only;rw[h2],q⟩
theorem Wp.none{K:Option Int->Env->Prop}(k:K none ρ):Wp none ρ K:=⟨_,_,rfl,k⟩
theorem Wp.some{f:FE}{K:Option Int->Env->Prop}(h:We f ρ fun v ρ1=>d9 v fun i=>K (some i) ρ1):Wp (some f) ρ K:=by obtain⟨v,ρ1,h1,i,rfl,k⟩:=h;exact⟨_,_,by unfold part;dsimp only;rw[h1],k⟩
def Wsl(o:Option Dat)(l h:Option Int)(K:Dat->Prop):Prop:=∃xs,o=some (.lst xs)/\K (.lst (cut xs l h))
noncomputable def sG{α:Type}(xs:List α)(lo hi:Option Int):List α:=(xs.drop (sIx xs.length 0 lo)).take (sIx xs.length xs.length hi-sIx xs.length 0 lo)
theorem Qn(xK:α->Dat)(xs:List α)(lo hi:Option Int):cut (xs.map xK) lo hi=(sG xs lo hi).map xK:=by unfold cut sG;rw[Dp,<- List.map_drop,<- List.map_take]
theorem Wsl.A{xK:α->Dat}{xs:List α}{o:Option Dat}{l h:Option Int}{K:Dat->Prop}(k:K (.lst ((sG xs l h).map xK)))(ho:o=some (.lst (xs.map xK))):Wsl o l h K:=⟨_,ho,by rw[Qn];exact k⟩
theorem YH{lo hi:Option FE}(h:We a ρ fun x ρ1=>Wp lo ρ1 fun l ρ2=>Wp hi ρ2 fun h ρ3=>Wsl (pk ρ3 x) l h fun d=>Q (.new d) ρ3):We (eSl a lo hi) ρ Q:=by obtain⟨x,ρ1,h1,l,ρ2,h2,hh,ρ3,h3,xs,h4,q⟩:=h;exact⟨_,_,by unfold eSl;rw[h1];dsimp only;rw[h2];dsimp only;rw[h3];dsimp only;rw[h4],q⟩
theorem XH(n:N ρ):Ws sNx ρ N R B C:=⟨_,rfl,n⟩
theorem Xi(h:Ws s ρ (fun ρ1=>Ws u ρ1 N R B C) R B C):Ws (aB s u) ρ N R B C:=by
 obtain⟨o,h1,h2⟩:=h;cases o with
 |nx ρ1=>obtain⟨o,h3,h4⟩:=h2;exact⟨o,by unfold aB;rw[h1];exact h3,h4⟩
 |ret r ρ1=>exact⟨.ret r ρ1,by unfold aB;rw[h1],h2⟩
 |bk ρ1=>exact⟨.bk ρ1,by unfold aB;rw[h1],h2⟩
 |ct ρ1=>exact⟨.ct ρ1,by unfold aB;rw[h1],h2⟩
def WA(i:Nat)(v:Val)(ρ:Env)(N:Env->Prop):Prop:=match v with
 |.new d=>N (ρ.set i (.ow d))
 |x=>Wk ρ x fun d ρ2=>N (ρ2.set i (.sh d))
theorem Xs{i:Nat}(h:We e ρ fun v ρ1=>WA i v ρ1 N)(hi:i≠0):Ws (sA i e) ρ N R B C:=by
 obtain⟨v,ρ1,h1,h2⟩:=h;cases v with
 |new d=>exact⟨.nx _,by unfold sA;rw[if_neg hi,h1],h2⟩
 |val d=>obtain⟨d',ρ2,h3,h4⟩:=h2;exact⟨.nx _,by unfold sA;rw[if_neg hi,h1];dsimp only;rw[h3],h4⟩
 |slot j=>obtain⟨d',ρ2,h3,h4⟩:=h2;exact⟨.nx _,by unfold sA;rw[if_neg hi,h1];dsimp only;rw[h3],h4⟩
theorem Xw{i:Nat}{ρ ρ2:Env}(n:N ρ2)(hs:ρ.set i (.ow d)=ρ2):WA i (.new d) ρ N:=by unfold WA;dsimp only;rw[hs];exact n
theorem XA{i:Nat}{ρ ρ2:Env}(n:N ρ2)(hs:ρ.set i (.sh d)=ρ2):WA i (.val d) ρ N:=⟨_,_,rfl,by show N _;rw[hs];exact n⟩
theorem Y3{is:List Nat}(h:We e ρ fun x ρ1=>Wk ρ1 x fun d ρ2=>∃ds ρ3,d=.tup ds/\sets is ds ρ2=some ρ3/\N ρ3):Ws (sU is e) ρ N R B C:=by obtain⟨x,ρ1,h1,d,ρ2,h2,ds,ρ3,rfl,h3,n⟩:=h;exact⟨.nx _,by unfold sU;rw[h1];dsimp only;rw[h2];dsimp only;rw[h3],n⟩
theorem YU(h:We e ρ fun _ ρ1=>N ρ1):Ws (sE e) ρ N R B C:=by obtain⟨x,ρ1,h1,n⟩:=h;exact⟨.nx _,by unfold sE;rw[h1],n⟩
def WR(v:Val)(ρ:Env)(R:RV->Env->Prop):Prop:=match v with
 |.new d=>R (.new d) ρ
 |.val d=>R (.val d) ρ
 |.slot i=>(∃d,ρ[i]?=some (.ow d)/\R (.new d) (ρ.set i .un))
theorem Xr(h:We e ρ fun v ρ1=>WR v ρ1 R):Ws (sR e) ρ N R B C:=by
 obtain⟨v,ρ1,h1,h2⟩:=h;cases v with
 |new d=>exact⟨.ret _ _,by unfold sR;rw[h1],h2⟩
 |val d=>exact⟨.ret _ _,by unfold sR;rw[h1],h2⟩
 |slot i=>obtain⟨d,h3,h4⟩:=h2;exact⟨.ret _ _,by unfold sR;rw[h1];dsimp only;rw[h3],h4⟩
theorem X8(r:R (.new d) ρ):WR (.new d) ρ R:=r
theorem Yx(r:R (.val d) ρ):WR (.val d) ρ R:=r
theorem YC{i:Nat}(r:R (.new d) (ρ.set i .un))(h:ρ[i]?=some (.ow d)):WR (.slot i) ρ R:=⟨d,h,r⟩
theorem Xy{a b:FS}(h:Wt t ρ fun c ρ1=>Wif c (Ws a ρ1 N R B C) (Ws b ρ1 N R B C)):Ws (sIf t a b) ρ N R B C:=by
 obtain⟨c,ρ1,h1,h2,h3⟩:=h;cases c with
 |true=>obtain⟨o,h4,q⟩:=h2 rfl;exact⟨_,by unfold sIf;rw[h1];exact h4,q⟩
 |false=>obtain⟨o,h4,q⟩:=h3 rfl;exact⟨_,by unfold sIf;rw[h1];exact h4,q⟩
theorem Yi{i:Nat}{ds0:List Dat}(h:We e ρ fun x ρ1=>Wk ρ1 x fun d ρ2=>∃ds ρ3,ρ2[i]?=some (.ow (.lst ds))/\ρ2.set i (.ow (.lst (ds++[d])))=ρ3/\N ρ3/\ds.length<SZ)(h0:ρ[i]?=some (.ow (.lst ds0))):Ws (pV i e) ρ N R B C:=by obtain⟨x,ρ1,h1,d,ρ2,h2,ds,ρ3,h3,h5,n,h4⟩:=h;exact⟨.nx _,by unfold pV;rw[h0];dsimp only;rw[h1];dsimp only;rw[h2];dsimp only;rw[h3];dsimp only;rw[if_pos h4,h5],n⟩
theorem sI{i:Nat}(n:N ρ3)(h:ρ2[i]?=some (.ow (.lst ds)))(hs:ρ2.set i (.ow (.lst (ds++[d])))=ρ3)(hl:ds.length<SZ):∃ds ρ3,ρ2[i]?=some (.ow (.lst ds))/\ρ2.set i (.ow (.lst (ds++[d])))=ρ3/\N ρ3/\ds.length<SZ:=⟨_,_,h,hs,n,hl⟩
theorem YL{i:Nat}{j e:FE}(h:We e ρ fun x ρ1=>Wk ρ1 x fun d ρ2=>(∃d0,ρ2[i]?=some (.ow d0))/\We j ρ2 fun y ρ3=>d9 y fun k=>∃ds m ρ4,ρ3[i]?=some (.ow (.lst ds))/\ixN ds.length k=some m/\ρ3.set i (.ow (.lst (ds.set m d)))=ρ4/\N ρ4):Ws (wQ i j e) ρ N R B C:=by obtain⟨x,ρ1,h1,d,ρ2,h2,⟨d0,h0⟩,y,ρ3,h3,k,rfl,ds,m,ρ4,h4,h5,h6,n⟩:=h;exact⟨.nx _,by unfold wQ;rw[h1];dsimp only;rw[h2];dsimp only;rw[h0];dsimp only;rw[h3];dsimp only;rw[h4];dsimp only;rw[h5];dsimp only;rw[h6],n⟩
theorem XT(h:Wi it ρ fun ds ρ1=>Ws (kE bd body ds) ρ1 N R B C):Ws (dP it bd body) ρ N R B C:=by obtain⟨ds,ρ1,h1,o,h2,h3⟩:=h;exact⟨o,by unfold dP;rw[h1];exact h2,h3⟩
theorem XU(xK:α->Dat)(bd:FB)(body:FS)(xs:List α)(ρ:Env)(N:Env->Prop)(R:RV->Env->Prop)(B C:Env->Prop)(I:List α->List α->Env->Prop)
  (h0:I [] xs ρ) (hs:∀p x q ρ,xs=p++x::q->I p (x::q) ρ->∃ρ1,bd (xK x) ρ=some ρ1/\Ws body ρ1 (fun ρ2=>I (p++[x]) q ρ2) R N (fun ρ2=>I (p++[x]) q ρ2)) (he:∀ρ,I xs [] ρ->N ρ):Ws (kE bd body (xs.map xK)) ρ N R B C:=by
 have go:∀(q p:List α) (ρ:Env),xs=p++q->I p q ρ->Ws (kE bd body (q.map xK)) ρ N R B C:=fun q=>by
  induction q with
  |nil=>intro p ρ e i;rw[Uc]at e;exact⟨.nx _,rfl,he ρ (e▸i)⟩
  |cons x q ih=>
   intro p ρ e i;obtain⟨ρ1,h1,o,h2,h3⟩:=hs p x q ρ e i;have e':xs=(p++[x])++q:=by rw[UU];exact e
   cases o with
   |nx ρ2=>obtain⟨o,h4,h5⟩:=ih _ _ e' h3;exact⟨o,by rw[PU,kE,h1];dsimp only;rw[h2];exact h4,h5⟩
   |ct ρ2=>obtain⟨o,h4,h5⟩:=ih _ _ e' h3;exact⟨o,by rw[PU,kE,h1];dsimp only;rw[h2];exact h4,h5⟩
   |bk ρ2=>exact⟨.nx _,by rw[PU,kE,h1];dsimp only;rw[h2],h3⟩
   |ret r ρ2=>exact⟨.ret _ _,by rw[PU,kE,h1];dsimp only;rw[h2],h3⟩
 exact go xs [] ρ rfl h0
theorem Xn{P:RV->Prop}(b:Ws body ρ (fun _=>P (.val .non)) (fun r _=>P r) (fun _=>False) (fun _=>False))(hρ:ds.map Cell.sh++Dk m .un=ρ)(h:ds.length=n):Wr (fn n m body ds) P:=by
 obtain⟨o,h1,h2⟩:=b;cases o with
 |nx ρ1=>exact⟨_,by unfold Dm.fn;rw[if_pos h,hρ,h1],h2⟩
 |ret r ρ1=>exact⟨_,by unfold Dm.fn;rw[if_pos h,hρ,h1],h2⟩
 |bk ρ1=>exact h2.elim
 |ct ρ1=>exact h2.elim
theorem Xo{o:Option RV}{r:RV}(h:Wr o fun x=>x=r):o=some r:=by obtain⟨x,h1,rfl⟩:=h;exact h1
theorem uU(xK:α->Dat)(p:α->Bool)(v:α->Dat)(bd:FB)(t:FT)(el:FE)(mk:Cell->Env)(hb:∀d c,bd d (mk c)=some (mk (.sh d))):∀(xs:List α) (c:Cell) (DZ:List Dat),
  (∀x∈xs,t (mk (.sh (xK x)))=some (p x,mk (.sh (xK x))))->(∀x∈xs,p x=true->We el (mk (.sh (xK x))) fun w ρ'=>Wk ρ' w fun d ρ''=>d=v x/\ρ''=mk (.sh (xK x))) ->
  ∃c',cK bd t el (xs.map xK) (mk c) DZ=some (DZ++(xs.filter p).map v,mk c')
 |[],c,DZ,_,_=>⟨c,by simp[cK]⟩
 |x::xs,c,DZ,ht,he=>by
  rw[PU,cK,hb];dsimp only;rw[ht x To];have ht':=fun y hy=>ht y (Tq _ hy);have he':=fun y hy=>he y (Tq _ hy);by_cases h:p x=true
  ·obtain⟨w,ρ',h1,d,ρ'',h2,rfl,rfl⟩:=he x To h;rw[h];dsimp only;rw[h1];dsimp only;rw[h2];obtain⟨c',e⟩:=uU xK p v bd t el mk hb xs (.sh (xK x)) (DZ++[v x]) ht' he';exact⟨c',by dsimp only;rw[e,U8 h];simp⟩
  ·rw[Bool.not_eq_true]at h;rw[h];obtain⟨c',e⟩:=uU xK p v bd t el mk hb xs (.sh (xK x)) DZ ht' he';exact⟨c',by dsimp only;rw[e,U7 (by rw[h];decide)]⟩
theorem Yc(h:Wt t ρ fun c' ρ'=>c'=c/\ρ'=ρ):t ρ=some (c,ρ):=by obtain⟨_,_,h1,rfl,rfl⟩:=h;exact h1
theorem YE(xK:α->Dat)(xs:List α)(p:α->Bool)(v:α->Dat){it:FI}{k:Nat}{t:FT}{el:FE}{ρ ρ1:Env}{Q:Val->Env->Prop}
  (q:Q (.new (.lst ((xs.filter p).map v))) ρ1) (JB:it ρ=some (xs.map xK,ρ1)) (hk:ρ1.length=k) (hk0:k≠0) (hl:xs.length<=SZ)
  (ht:∀x∈xs,Wt t (ρ1++[.sh (xK x)]) fun c ρ'=>c=p x/\ρ'=ρ1++[.sh (xK x)])
  (he:∀x∈xs,p x=true->We el (ρ1++[.sh (xK x)]) fun w ρ'=>Wk ρ' w fun d ρ''=>d=v x/\ρ''=ρ1++[.sh (xK x)]):We (bO it 1 (bN k) t el) ρ Q:=by
 have bd:∀(d:Dat) (c:Cell),bN k d (ρ1++[c])=some (ρ1++[.sh d]):=fun d c=>by unfold bN;rw[if_neg hk0,Uo _ _ (by lia)];simp[hk]
 obtain⟨c',e⟩:=uU xK p v (bN k) t el (fun c=>ρ1++[c]) bd xs .un [] (fun x hx=>Yc (ht x hx)) he;refine⟨_,_,?_,q⟩;unfold bO;rw[JB];dsimp only;rw[if_pos (by rw[Dp];exact hl)];show (match cK _ _ _ _ (ρ1++[.un]) [] with | none=>none | some (ys,ρ2)=>some (Val.new (.lst ys),ρ2.take ρ1.length))=_;rw[e];dsimp only;rw[U4,VG]
theorem YY(xK:α->Dat)(xs:List α)(p:α->Bool)(v:α->Dat){i:Nat}{k:Nat}{t:FT}{el:FE}{ρ:Env}{Q:Val->Env->Prop}{d:Dat}
  (q:Q (.new (.lst ((xs.filter p).map v))) ρ) (hi:ρ[i]?=some (.sh d)) (hd:Dt d=some (xs.map xK)) (hk:ρ.length=k) (hk0:k≠0) (hl:xs.length<=SZ)
  (ht:∀x∈xs,Wt t (ρ++[.sh (xK x)]) fun c ρ'=>c=p x/\ρ'=ρ++[.sh (xK x)])
  (he:∀x∈xs,p x=true->We el (ρ++[.sh (xK x)]) fun w ρ'=>Wk ρ' w fun d ρ''=>d=v x/\ρ''=ρ++[.sh (xK x)]):We (aM i 1 (bN k) t el) ρ Q:=by
 have JB:iS (eV i) ρ=some (xs.map xK,ρ):=by
  unfold iS eV;rw[hi];cases d with
  |lst ys=>cases hd;rfl
  |tup ys=>cases hd;rfl
  |_=>cases hd
 obtain⟨a,ρ',h1,h2⟩:=YE xK xs p v (Q:=Q) q JB hk hk0 hl ht he;refine⟨a,ρ',?_,h2⟩;unfold aM;rw[hi];exact h1
theorem YV(xK:α->Dat)(xs:List α)(p:α->Bool)(v:α->Dat){i:Nat}{k:Nat}{t:FT}{el:FE}{ρ ρ1:Env}{Q:Val->Env->Prop}
  (q:Q (.new (.lst ((xs.filter p).map v))) ρ) (hi:ρ[i]?=some (.ow (.lst (xs.map xK)))) (h1:ρ.set i .un=ρ1) (hk:ρ.length=k) (hk0:k≠0) (hl:xs.length<=SZ)
  (ht:∀x∈xs,Wt t (ρ1++[.sh (xK x)]) fun c ρ'=>c=p x/\ρ'=ρ1++[.sh (xK x)])
  (he:∀x∈xs,p x=true->We el (ρ1++[.sh (xK x)]) fun w ρ'=>Wk ρ' w fun d ρ''=>d=v x/\ρ''=ρ1++[.sh (xK x)]):We (aM i 1 (bN k) t el) ρ Q:=by
 have xM:ρ1.length=ρ.length:=by rw[<- h1,Ug]
 have hil:i<ρ.length:=(Tj.mp hi).1;have bd:∀(d:Dat) (c:Cell),bN k d (ρ1++[c])=some (ρ1++[.sh d]):=fun d c=>by unfold bN;rw[if_neg hk0,Uo _ _ (by lia)];simp[hk,xM]
 obtain⟨c',e⟩:=uU xK p v (bN k) t el (fun c=>ρ1++[c]) bd xs .un [] (fun x hx=>Yc (ht x hx)) he;refine⟨_,_,?_,q⟩;unfold aM;rw[hi];dsimp only;rw[if_pos (by rw[Dp];exact hl),h1];show (match cK _ _ _ _ (ρ1++[.un]) [] with | none=>none | some (ys,ρ2)=>some (Val.new (.lst ys),(ρ2.take ρ.length).set i (.ow (.lst (xs.map xK)))))=_;rw[e];dsimp only;rw[U4,<- xM,VG,<- h1,Xe]
 congr 2
 apply VW;intro j;by_cases h:i=j
 ·subst h;rw[TR hil,hi]
 ·rw[gc h]
theorem Yl{α β:Type}(xK:α->Dat)(xs:List α)(f:α->β)(cS:β->Dat){it:FI}{k:Nat}{el:FE}{ρ ρ1:Env}{Q:Val->Env->Prop}
  (q:Q (.new (.lst ((xs.map f).map cS))) ρ1) (JB:it ρ=some (xs.map xK,ρ1)) (hk:ρ1.length=k) (hk0:k≠0) (hl:xs.length<=SZ)
  (he:∀x∈xs,We el (ρ1++[.sh (xK x)]) fun w ρ'=>Wk ρ' w fun d ρ''=>d=cS (f x)/\ρ''=ρ1++[.sh (xK x)]):We (bO it 1 (bN k) bI el) ρ Q:=
 YE xK xs (fun _=>true) (fun x=>cS (f x)) (by rw[Vs.mpr (fun _ _=>rfl)];rw[Vg]at q;exact q) JB hk hk0 hl (fun _ _=>Yw ⟨rfl,rfl⟩) fun x hx _=>he x hx
theorem Ym{α β:Type}(xK:α->Dat)(xs:List α)(f:α->β)(cS:β->Dat){i:Nat}{k:Nat}{el:FE}{ρ:Env}{Q:Val->Env->Prop}{d:Dat}
  (q:Q (.new (.lst ((xs.map f).map cS))) ρ) (hi:ρ[i]?=some (.sh d)) (hd:Dt d=some (xs.map xK)) (hk:ρ.length=k) (hk0:k≠0) (hl:xs.length<=SZ)
  (he:∀x∈xs,We el (ρ++[.sh (xK x)]) fun w ρ'=>Wk ρ' w fun d ρ''=>d=cS (f x)/\ρ''=ρ++[.sh (xK x)]):We (aM i 1 (bN k) bI el) ρ Q:=
 YY xK xs (fun _=>true) (fun x=>cS (f x)) (by rw[Vs.mpr (fun _ _=>rfl)];rw[Vg]at q;exact q) hi hd hk hk0 hl (fun _ _=>Yw ⟨rfl,rfl⟩) fun x hx _=>he x hx
theorem YX{α β:Type}(xK:α->Dat)(xs:List α)(f:α->β)(cS:β->Dat){i:Nat}{k:Nat}{el:FE}{ρ ρ1:Env}{Q:Val->Env->Prop}
  (q:Q (.new (.lst ((xs.map f).map cS))) ρ) (hi:ρ[i]?=some (.ow (.lst (xs.map xK)))) (h1:ρ.set i .un=ρ1) (hk:ρ.length=k) (hk0:k≠0) (hl:xs.length<=SZ)
  (he:∀x∈xs,We el (ρ1++[.sh (xK x)]) fun w ρ'=>Wk ρ' w fun d ρ''=>d=cS (f x)/\ρ''=ρ1++[.sh (xK x)]):We (aM i 1 (bN k) bI el) ρ Q:=
 YV xK xs (fun _=>true) (fun x=>cS (f x)) (by rw[Vs.mpr (fun _ _=>rfl)];rw[Vg]at q;exact q) hi h1 hk hk0 hl (fun _ _=>Yw ⟨rfl,rfl⟩) fun x hx _=>he x hx
theorem YK{α β:Type}(xK:α->Dat)(xs:List α)(p:α->Bool)(f:α->β)(cS:β->Dat){i:Nat}{k:Nat}{t:FT}{el:FE}{ρ:Env}{Q:Val->Env->Prop}{d:Dat}
  (q:Q (.new (.lst (((xs.filter p).map f).map cS))) ρ) (hi:ρ[i]?=some (.sh d)) (hd:Dt d=some (xs.map xK)) (hk:ρ.length=k) (hk0:k≠0) (hl:xs.length<=SZ)
  (ht:∀x∈xs,Wt t (ρ++[.sh (xK x)]) fun c ρ'=>c=p x/\ρ'=ρ++[.sh (xK x)])
  (he:∀x∈xs,p x=true->We el (ρ++[.sh (xK x)]) fun w ρ'=>Wk ρ' w fun d ρ''=>d=cS (f x)/\ρ''=ρ++[.sh (xK x)]):We (aM i 1 (bN k) t el) ρ Q:=
 YY xK xs p (fun x=>cS (f x)) (by rw[Vg]at q;exact q) hi hd hk hk0 hl ht he
theorem Y6{α β:Type}(xK:α->Dat)(xs:List α)(p:α->Bool)(f:α->β)(cS:β->Dat){i:Nat}{k:Nat}{t:FT}{el:FE}{ρ ρ1:Env}{Q:Val->Env->Prop}
  (q:Q (.new (.lst (((xs.filter p).map f).map cS))) ρ) (hi:ρ[i]?=some (.ow (.lst (xs.map xK)))) (h1:ρ.set i .un=ρ1) (hk:ρ.length=k) (hk0:k≠0) (hl:xs.length<=SZ)
  (ht:∀x∈xs,Wt t (ρ1++[.sh (xK x)]) fun c ρ'=>c=p x/\ρ'=ρ1++[.sh (xK x)])
  (he:∀x∈xs,p x=true->We el (ρ1++[.sh (xK x)]) fun w ρ'=>Wk ρ' w fun d ρ''=>d=cS (f x)/\ρ''=ρ1++[.sh (xK x)]):We (aM i 1 (bN k) t el) ρ Q:=
 YV xK xs p (fun x=>cS (f x)) (by rw[Vg]at q;exact q) hi h1 hk hk0 hl ht he
theorem Hz(i j:Int):gEq (.int i) (.int j)=vB (decide (i=j)):=by
 have:(i == j)=decide (i=j):=by by_cases h:i=j<;>simp[h]
 show vB (i == j)=_;rw[this]
theorem HA(i j:Int):gNe (.int i) (.int j)=vB (!decide (i=j)):=by
 have:(i == j)=decide (i=j):=by by_cases h:i=j<;>simp[h]
 show vB (!(i == j))=_;rw[this]
theorem Yb(k:K (.val (.bl (decide (i=j)))))(ho:o=some (.int i))(hp:p=some (.int j)):Wg2 gEq o p K:=⟨_,_,_,ho,hp,Hz i j,k⟩
theorem XY(k:K (.val (.bl (!decide (i=j)))))(ho:o=some (.int i))(hp:p=some (.int j)):Wg2 gNe o p K:=⟨_,_,_,ho,hp,HA i j,k⟩
theorem Yo{i j:Bool}(k:K (.val (.bl (!(i == j)))))(ho:o=some (.bl i))(hp:p=some (.bl j)):Wg2 gNe o p K:=⟨_,_,_,ho,hp,rfl,k⟩
theorem Yh(k:K (.val (.bl (decide (i<j)))))(ho:o=some (.int i))(hp:p=some (.int j)):Wg2 gLt o p K:=⟨_,_,_,ho,hp,rfl,k⟩
theorem YN(k:K (.val (.bl (decide (i<=j)))))(ho:o=some (.int i))(hp:p=some (.int j)):Wg2 gLe o p K:=⟨_,_,_,ho,hp,rfl,k⟩
theorem X7(k:K (.val (.bl (decide (j<i)))))(ho:o=some (.int i))(hp:p=some (.int j)):Wg2 gGt o p K:=⟨_,_,_,ho,hp,rfl,k⟩
theorem Ys(k:K (.val (.bl (decide (j<=i)))))(ho:o=some (.int i))(hp:p=some (.int j)):Wg2 gGe o p K:=⟨_,_,_,ho,hp,rfl,k⟩
theorem XO(k:K (.val (.int (i+j))))(ho:o=some (.int i))(hp:p=some (.int j)):Wg2 bS o p K:=⟨_,_,_,ho,hp,rfl,k⟩
theorem X5{xs ys:List Dat}(k:K (.new (.lst (xs++ys))))(ho:o=some (.lst xs))(hp:p=some (.lst ys))(h:xs.length+ys.length<=SZ):Wg2 bS o p K:=⟨_,_,_,ho,hp,by unfold bS;dsimp only;rw[if_pos h],k⟩
theorem X3(k:K (.val (.int (i-j))))(ho:o=some (.int i))(hp:p=some (.int j)):Wg2 jC o p K:=⟨_,_,_,ho,hp,rfl,k⟩
theorem Ye(k:K (.val (.int (i*j))))(ho:o=some (.int i))(hp:p=some (.int j))(h:(-B64<i/\i<B64)\/(-B64<j/\j<B64)):Wg2 g6 o p K:=⟨_,_,_,ho,hp,by unfold g6;dsimp only;rw[if_pos h],k⟩
theorem YA(k:K (.val (.int (i / j))))(ho:o=some (.int i))(hp:p=some (.int j))(h:0<j/\j<jH):Wg2 Aj o p K:=⟨_,_,_,ho,hp,by unfold Aj;dsimp only;rw[if_pos h],k⟩
theorem XX(k:K (.val (.int (i % j))))(ho:o=some (.int i))(hp:p=some (.int j))(h:0<j):Wg2 g7 o p K:=⟨_,_,_,ho,hp,by unfold g7;dsimp only;rw[if_pos h],k⟩
theorem X4{i j z:Int}(k:K (.val (.int z)))(ho:o=some (.int i))(hp:p=some (.int j))(h:0<=j/\j<=1000000/\i.natAbs<1000000)(hz:i ^ j.toNat=z):Wg2 g8 o p K:=⟨_,_,_,ho,hp,by unfold g8;dsimp only;rw[if_pos h,hz],k⟩
theorem Xm{d e:Dat}{v:Dat}(k:K (.val v))(ho:o=some d)(hp:p=some e)(h:gIx d e=some (.val v)):Wg2 gIx o p K:=⟨_,_,_,ho,hp,h,k⟩
theorem mq(xK:α->Dat)(xs:List α)(i:Int)(h0:0<=i)(h1:i<xs.length):atI (xs.map xK) i=some (xK (xs[i.toNat]'(by lia))):=by unfold atI ixN;rw[Dp,if_pos h0,if_pos h1];show (xs.map xK)[i.toNat]?=_;rw[TM,Tv (by lia)];rfl
theorem Yy{xK:α->Dat}{xs:List α}{i:Int}(h0:0<=i)(h1:i<xs.length)(k:K (.val (xK (xs[i.toNat]'(by lia)))))(ho:o=some (.lst (xs.map xK)))(hp:p=some (.int i)):Wg2 gIx o p K:=
 ⟨_,_,_,ho,hp,by unfold gIx;dsimp only;rw[mq xK xs i h0 h1];rfl,k⟩
theorem ze(i:Int)(xs:List Int):inD (.int i) (xs.map Dat.int)=decide (i∈xs):=by
 induction xs with
 |nil=>rfl
 |cons x xs ih=>
  have ih':(xs.map Dat.int).any (fun y=>eqD y (.int i))=decide (i∈xs):=ih;unfold inD;rw[PU,Vw,ih'];show ((x == i)||_)=_;by_cases h:x=i
  ·simp[h]
  ·have h':¬i=x:=fun z=>h z.symm;simp[h,h']
theorem Dv(xs:List Int):(xs.map Dat.int).all (okD 7)=true:=by rw[UE];intro d hd;obtain⟨x,_,rfl⟩:=U0.mp hd;rfl
theorem YQ{i:Int}{xs:List Int}(k:K (.val (.bl (!decide (i∈xs)))))(ho:o=some (.int i))(hp:p=some (.lst (xs.map Dat.int))):Wg2 eZ o p K:=
 ⟨_,_,_,ho,hp,by unfold eZ;dsimp only;rw[show okD 8 (.int i)=true from rfl,Dv,ze];rfl,k⟩
theorem Yd{i:Int}{xs:List Int}(k:K (.val (.bl (decide (i∈xs)))))(ho:o=some (.int i))(hp:p=some (.tup (xs.map Dat.int))):Wg2 gIn o p K:=
 ⟨_,_,_,ho,hp,by unfold gIn;dsimp only;rw[show okD 8 (.int i)=true from rfl,Dv,ze];rfl,k⟩
theorem Yu{xs:List Dat}{o:Option (List Dat)}(k:K (.val (.int xs.length)))(ho:o=some [.lst xs]):WB cH o K:=⟨_,_,ho,rfl,k⟩
theorem X6{xs:List Dat}{o:Option (List Dat)}(k:K (.val (.int xs.length)))(ho:o=some [.tup xs]):WB cH o K:=⟨_,_,ho,rfl,k⟩
theorem Yg{o:Option (List Dat)}(k:K (.val (.int (if j<i then j else i))))(ho:o=some [.int i,.int j]):WB mS o K:=⟨_,_,ho,rfl,k⟩
theorem Yp{o:Option (List Dat)}(k:K (.val (.int (if j>i then j else i))))(ho:o=some [.int i,.int j]):WB qp o K:=⟨_,_,ho,rfl,k⟩
theorem Yt{b:Bool}{o:Option (List Dat)}(k:K (.val (.int (b2i b))))(ho:o=some [.bl b]):WB Al o K:=⟨_,_,ho,rfl,k⟩
theorem XN{o:Option Dat}(k:K v)(ho:o=some d)(h:g d=some v):Wg1 g o K:=⟨_,_,ho,h,k⟩
theorem Qq(xK:α->Dat)(xs:List α)(h:∀x,okD 7 (xK x)=true):okD 8 (.lst (xs.map xK))=true:=by unfold okD;rw[UE];intro d hd;obtain⟨x,_,rfl⟩:=U0.mp hd;exact h x
theorem X_{xK:α->Dat}{xs:List α}{o:Option (List Dat)}(k:K (.val (.int xs.length)))(ho:o=some [.lst (xs.map xK)]):WB cH o K:=⟨_,_,ho,by unfold cH;dsimp only;rw[Dp],k⟩
theorem YZ{s:FS}{N N':Env->Prop}(h:Ws s ρ N' R B C)(k:∀ρ',N' ρ'->N ρ'):Ws s ρ N R B C:=by
 obtain⟨o,h1,h2⟩:=h;cases o with
 |nx ρ1=>exact⟨.nx ρ1,h1,k _ h2⟩
 |ret r ρ1=>exact⟨.ret r ρ1,h1,h2⟩
 |bk ρ1=>exact⟨.bk ρ1,h1,h2⟩
 |ct ρ1=>exact⟨.ct ρ1,h1,h2⟩
theorem MP{i:Nat}{W:Prop}(h:ρ[i]?=some (.ow d))(w:W):(∃d0,ρ[i]?=some (.ow d0))/\W:=⟨⟨d,h⟩,w⟩
theorem cV{ρ ρ1 ρ2:Env}{W:Env->Prop}(h:bd d ρ=some ρ1)(hn:ρ1=ρ2)(w:W ρ2):∃ρ1,bd d ρ=some ρ1/\W ρ1:=⟨ρ1,h,hn▸w⟩
theorem Dw(xK:α->Dat)(p:α->Bool)(v:α->Dat)(bd:FB)(t:FT)(el:FE)(e0:Env)(env:α->Env)(h0:∀x,bd (xK x) e0=some (env x))(h1:∀x y,bd (xK x) (env y)=some (env x)):∀(xs:List α) (DZ:List Dat) (e:Env),(e=e0\/∃y,e=env y) ->
  (∀x∈xs,t (env x)=some (p x,env x))->(∀x∈xs,p x=true->We el (env x) fun w ρ'=>Wk ρ' w fun d ρ''=>d=v x/\ρ''=env x) ->
  ∃e',(e'=e0\/∃y,e'=env y)/\cK bd t el (xs.map xK) e DZ=some (DZ++(xs.filter p).map v,e')
 |[],DZ,e,he,_,_=>⟨e,he,by simp[cK]⟩
 |x::xs,DZ,e,he,ht,hel=>by
  have hb:bd (xK x) e=some (env x):=by
   rcases he with rfl | ⟨y,rfl⟩
   ·exact h0 x
   ·exact h1 x y
  rw[PU,cK,hb];dsimp only;rw[ht x To];have ht':=fun y hy=>ht y (Tq _ hy);have he':=fun y hy=>hel y (Tq _ hy);by_cases h:p x=true
  ·obtain⟨w,ρ',g1,d,ρ'',g2,rfl,rfl⟩:=hel x To h;rw[h];dsimp only;rw[g1];dsimp only;rw[g2];obtain⟨e',q,z⟩:=Dw xK p v bd t el e0 env h0 h1 xs (DZ++[v x]) _ (.inr ⟨x,rfl⟩) ht' he';exact⟨e',q,by dsimp only;rw[z,U8 h];simp⟩
  ·rw[Bool.not_eq_true]at h;rw[h];obtain⟨e',q,z⟩:=Dw xK p v bd t el e0 env h0 h1 xs DZ _ (.inr ⟨x,rfl⟩) ht' he';exact⟨e',q,by dsimp only;rw[z,U7 (by rw[h];decide)]⟩
theorem YG{α β:Type}(xK:α->Dat)(xs:List α)(p:α->Bool)(f:α->β)(cS:β->Dat)(env:α->Env){it:FI}{own:Nat}{bd:FB}{t:FT}{el:FE}{ρ ρ1:Env}{Q:Val->Env->Prop}
  (q:Q (.new (.lst (((xs.filter p).map f).map cS))) ρ1) (JB:it ρ=some (xs.map xK,ρ1)) (h0:∀x,bd (xK x) (ρ1++Dk own .un)=some (env x)) (h1:∀x y,bd (xK x) (env y)=some (env x)) (h2:∀x,(env x).take ρ1.length=ρ1) (hl:xs.length<=SZ)
  (ht:∀x∈xs,Wt t (env x) fun c ρ'=>c=p x/\ρ'=env x)
  (he:∀x∈xs,p x=true->We el (env x) fun w ρ'=>Wk ρ' w fun d ρ''=>d=cS (f x)/\ρ''=env x):We (bO it own bd t el) ρ Q:=by
 obtain⟨e',q',e⟩:=Dw xK p (fun x=>cS (f x)) bd t el _ env h0 h1 xs [] _ (.inl rfl) (fun x hx=>Yc (ht x hx)) he;refine⟨_,_,?_,q⟩;unfold bO;rw[JB];dsimp only;rw[if_pos (by rw[Dp];exact hl),e];dsimp only;rw[U4,Vg];have:e'.take ρ1.length=ρ1:=by
  rcases q' with rfl | ⟨y,rfl⟩
  ·exact VG
  ·exact h2 y
 rw[this];rfl
theorem Y9{α β:Type}(xK:α->Dat)(xs:List α)(p:α->Bool)(f:α->β)(cS:β->Dat)(d1 d2 d3:α->Dat)(henc:∀x,xK x=.tup [d1 x,d2 x,d3 x]){i k:Nat}{t:FT}{el:FE}{ρ:Env}{Q:Val->Env->Prop}{d:Dat}
  (q:Q (.new (.lst (((xs.filter p).map f).map cS))) ρ) (hi:ρ[i]?=some (.sh d)) (hd:Dt d=some (xs.map xK)) (hk:ρ.length=k) (hk0:k≠0) (hl:xs.length<=SZ)
  (ht:∀x∈xs,Wt t (ρ++[.sh (d1 x),.sh (d2 x),.sh (d3 x)]) fun c ρ'=>c=p x/\ρ'=ρ++[.sh (d1 x),.sh (d2 x),.sh (d3 x)])
  (he:∀x∈xs,p x=true->We el (ρ++[.sh (d1 x),.sh (d2 x),.sh (d3 x)]) fun w ρ'=>Wk ρ' w fun d ρ''=>d=cS (f x)/\ρ''=ρ++[.sh (d1 x),.sh (d2 x),.sh (d3 x)]):We (aM i 3 (bT [k,k+1,k+2]) t el) ρ Q:=by
 have JB:iS (eV i) ρ=some (xs.map xK,ρ):=by
  unfold iS eV;rw[hi];cases d with
  |lst ys=>cases hd;rfl
  |tup ys=>cases hd;rfl
  |_=>cases hd
 have b:∀(x:α) (c1 c2 c3:Cell),bT [k,k+1,k+2] (xK x) (ρ++[c1,c2,c3])=some (ρ++[.sh (d1 x),.sh (d2 x),.sh (d3 x)]):=fun x c1 c2 c3=>by rw[henc];show sets [k,k+1,k+2] [d1 x,d2 x,d3 x] _=_;rw[sets,if_neg hk0,sets,if_neg (by lia),sets,if_neg (by lia),sets];rw[Uo _ _ (by lia),Uo _ _ (by lia),Uo _ _ (by lia)];subst hk;rw[VF,show ρ.length+1-ρ.length=1 by lia,show ρ.length+2-ρ.length=2 by lia];rfl
 obtain⟨a,ρ',g1,g2⟩:=YG xK xs p f cS (fun x=>(ρ++[Cell.sh (d1 x),Cell.sh (d2 x),Cell.sh (d3 x)]:Env)) (own:=3) (bd:=bT [k,k+1,k+2]) (Q:=Q) q JB (fun x=>b x .un .un .un) (fun x y=>b x (.sh (d1 y)) (.sh (d2 y)) (.sh (d3 y))) (fun x=>VG) hl ht he;refine⟨a,ρ',?_,g2⟩;unfold aM;rw[hi];exact g1
theorem YT{xs:List Dat}{o:Option (List Dat)}(k:K (.val (.tup xs)))(ho:o=some [.lst xs]):WB kF o K:=⟨_,_,ho,rfl,k⟩
theorem nC(ns:List Int):dQ (ns.map Dat.int)=some ns:=by
 induction ns with
 |nil=>rfl
 |cons m ms ih=>rw[PU,dQ,ih];rfl
theorem AX(p:α->Bool)(xs:List α):bools (xs.map fun x=>Dat.bl (p x))=some (xs.map p):=by
 induction xs with
 |nil=>rfl
 |cons x xs ih=>rw[PU,bools,ih];rfl
theorem Yv(p:α->Bool){xs:List α}{o:Option (List Dat)}(k:K (.val (.bl (xs.all p))))(ho:o=some [.lst (xs.map fun x=>Dat.bl (p x))]):WB pW o K:=⟨_,_,ho,by
 unfold pW;dsimp only;rw[AX];have:(xs.map p).all id=xs.all p:=by rw[List.all_map];rfl
 dsimp only;rw[this],k⟩
theorem Y8{j:Int}{o:Option (List Dat)}(k:K (.new (.lst (ups 0 j.toNat))))(ho:o=some [.int j])(h:j<=1000000/\-1000000<=j):WB qx o K:=⟨_,_,ho,by unfold qx;dsimp only;rw[if_pos h],k⟩
theorem XR(J:Env->Prop)(h1:Ws s ρ J R B C)(h2:∀ρ',J ρ'->Ws u ρ' N R B C):Ws (aB s u) ρ N R B C:=Xi (YZ h1 h2)
def WrM(o:Option (RV×Dat))(P:RV->Dat->Prop):Prop:=∃z d,o=some (z,d)/\P z d
theorem Yn{r:List Dat}{P:RV->Dat->Prop}(b:Ws body ρ (fun ρ'=>∃d',ρ'[0]?=some (.ow d')/\P (.val .non) d') (fun z ρ'=>∃d',ρ'[0]?=some (.ow d')/\P z d') (fun _=>False) (fun _=>False))(hρ:Cell.ow d::(r.map Cell.sh++Dk m .un)=ρ)(h:(d::r).length=n):WrM (fnM n m body (d::r)) P:=by
 obtain⟨o,h1,h2⟩:=b;cases o with
 |nx ρ1=>obtain⟨d',h3,h4⟩:=h2;exact⟨_,_,by unfold fnM;rw[if_pos h];dsimp only;rw[hρ,h1];dsimp only;rw[h3],h4⟩
 |ret z ρ1=>obtain⟨d',h3,h4⟩:=h2;exact⟨_,_,by unfold fnM;rw[if_pos h];dsimp only;rw[hρ,h1];dsimp only;rw[h3],h4⟩
 |bk ρ1=>exact h2.elim
 |ct ρ1=>exact h2.elim
def WFm(f:List Dat->Option (RV×Dat))(j:Nat)(ρ1:Env)(xs:List Val)(Q:Val->Env->Prop):Prop:=
 ∃d1 ds ρ2 d v d',ρ1[j]?=some (.ow d1)/\tks ρ1 xs=some (ds,ρ2)/\ρ2[j]?=some (.ow d)/\f (d::ds)=some (v,d')/\(if (flat v.dat&&xj d')=true then Q v.bH (ρ1.set j (.ow d')) else Q v.bH (ρ2.set j (.ow d')))
theorem YJ{j:Nat}{d0:Dat}(h:Was as ρ fun xs ρ1=>WFm f j ρ1 xs Q)(h0:ρ[j]?=some (.ow d0)):We (eFm f j as) ρ Q:=by
 obtain⟨xs,ρ1,h1,d1,ds,ρ2,d,v,d',h2,h3,h4,h5,q⟩:=h;by_cases c:(flat v.dat&&xj d')=true
 ·rw[if_pos c]at q;exact⟨_,_,by unfold eFm;rw[h0];dsimp only;rw[h1];dsimp only;rw[h2];dsimp only;rw[h3];dsimp only;rw[h4];dsimp only;rw[h5];dsimp only;rw[if_pos c],q⟩
 ·rw[if_neg c]at q;exact⟨_,_,by unfold eFm;rw[h0];dsimp only;rw[h1];dsimp only;rw[h2];dsimp only;rw[h3];dsimp only;rw[h4];dsimp only;rw[h5];dsimp only;rw[if_neg c],q⟩
theorem Yr{j:Nat}{ρ1 ρ3:Env}{d d':Dat}(h5:f (d::ds)=some (v,d'))(q:Q v.bH ρ3)(h2:ρ1[j]?=some (.ow d))(h3:tks ρ1 xs=some (ds,ρ1))(hn:ρ1.set j (.ow d')=ρ3):WFm f j ρ1 xs Q:=
 ⟨_,_,_,_,_,_,h2,h3,h2,h5,by rw[hn];split<;>exact q⟩
theorem YO{ρ ρ1:Env}(h:Wi it ρ fun x y=>x=ds/\y=ρ1):it ρ=some (ds,ρ1):=by obtain⟨_,_,h1,rfl,rfl⟩:=h;exact h1
theorem Y7{a b c:FE}{i j k:Int}{Q:List Dat->Env->Prop}(ha:a ρ=some (.val (.int i),ρ))(hb:b ρ=some (.val (.int j),ρ))(hc:c ρ=some (.val (.int k),ρ))(hk:(0<k/\k<=1000)/\j<=BIG/\-BIG<=j/\i<=BIG/\-BIG<=i)(q:Q (iw i k (cR i j k)) ρ):Wi (iRs a b c) ρ Q:=⟨_,_,by unfold iRs;rw[ha];dsimp only;rw[hb];dsimp only;rw[hc];dsimp only;rw[if_pos hk],q⟩
theorem Y0{ρ ρ':Env}{v:Val}(h:We e ρ fun x y=>x=v/\y=ρ'):e ρ=some (v,ρ'):=by obtain⟨_,_,h1,rfl,rfl⟩:=h;exact h1
theorem Y_{e0:FE}(h:Was (e0::as) ρ fun xs ρ1=>∃d ys ds v d',xs=.new d::ys/\kO ys=some ds/\f (d::ds)=some (v,d')/\Q v.bH ρ1):We (eFn f e0 as) ρ Q:=by obtain⟨xs,ρ1,h1,d,ys,ds,v,d',rfl,h2,h3,q⟩:=h;refine⟨_,_,?_,q⟩;unfold eFn;rw[h1];dsimp only;rw[h2];dsimp only;rw[h3]
end
end Dm
namespace Fl
structure Tie where
 m:Int
 a:Int
 b:Int
deriving Inhabited
end Fl
namespace P
open Dm
noncomputable def Qu:FN:=
  (nIf (tV (e2 gNe (eV 4) (eV 5))) (G7 (C0 (eV 4) (bg [(eV 3),(eV 5)]))
  (C0 (eV 5) (bg [(eV 3),(eV 4)]))) nNx)
noncomputable def Qv:List Dat->Option RV:=fn 2 4
  (aB (uN 2 (iR1 (eV 0)) 1 (bN 6) (G8 (iS (eV 1)) (bT [3,4,5])
  Qu))
  (sR (eV 2)))
noncomputable def Qw:List Dat->Option RV:=fn 2 0
  (sR (aM 0 1 (bN 2) bI (aM 2 1 (bN 3) (tV (e2 gNe (uA (eV 1) (e2 gIx (eV 3) (eC (.int 0)))) (e2 gIx (eV 3) (eC (.int 1))))) (eV 3))))
noncomputable def Qy:List Dat->Option RV:=fn 2 0
  (sR (aM 0 1 (bN 2) bI (aM 2 1 (bN 3) (tV (e2 gEq (uA (eV 1) (e2 gIx (eV 3) (eC (.int 0)))) (e2 gIx (eV 3) (eC (.int 1))))) (eV 3))))
noncomputable def Qz:FS:=
  (sIf (tV (e2 uz (e2 gIx (eV 5) (eC (.int 1))) (eV 2))) (aB (m9 2 (e2 gIx (eV 5) (eC (.int 1))) (e2 bS (e2 gDx (eV 2) (eV 4)) (bA [(eV 5)])))
  (pV 3 (e2 gIx (eV 5) (eC (.int 1))))) sNx)
noncomputable def QA:FS:=
  (aB (sA 4 (sd 3 (eC (.int 0))))
  (dP (iS (e2 gIx (eV 0) (eV 4))) (bN 5)
  Qz))
noncomputable def MQ:List Dat->Option RV:=fn 2 4
  (aB (sA 2 (eD1 (eV 1) (bA [])))
  (aB (sA 3 (bA [(eV 1)]))
  (aB (whD (tTr (eV 3))
  QA 100)
  (sR (eV 2)))))
noncomputable def QB:FS:=
  (sIf (tV (e2 AD (eV 2) (eV 0))) (sE (uO 0 (eV 2))) (m9 0 (eV 2) (eV 3)))
noncomputable def QC:List Dat->Option (RV×Dat):=fnM 2 2
  (dP (iS (eV 1)) (bT [2,3])
  QB)
noncomputable def QD:FS:=
  (sE (uO 5 (eV 9)))
noncomputable def QE:FS:=
  (aB (sA 8 (bO (iS (e2 gDx (eF MQ [(eFd Qy [(eV 0),(eV 5)]),(eV 2)]) (eV 3))) 1 (bN 10) bI (e2 gIx (eV 10) (eC (.int 0)))))
  (aB (dP (iS (eV 8)) (bN 9)
  QD)
  (pV 6 (eV 8))))
noncomputable def QF:List Dat->Option RV:=fn 5 5
  (aB (sA 5 (eB y_ [(eV 1)]))
  (aB (sA 6 (bA []))
  (aB (dP (iR1 (eV 4)) (bN 7)
  QE)
  (sR (eV 6)))))
noncomputable def QG:FS:=
  (aB (sA 9 (eF MQ [(eFd Qw [(eV 5),(eV 6)]),(eV 2)]))
  (sIf (tV (e2 AD (eV 3) (eV 9))) (aB (sE (eFm QC 6 [(e2 gDx (eV 9) (eV 3))]))
  (sA 8 (e2 bS (eV 8) (eC (.int 1))))) (sA 7 (eB kF [(eB sC [(eV 9)])]))))
noncomputable def QH:List Dat->Option RV:=fn 5 5
  (aB (sA 5 (eF Qv [(eV 0),(eV 1)]))
  (aB (sA 6 eDn)
  (aB (sA 7 (eC .non))
  (aB (sA 8 (eC (.int 0)))
  (aB (whD (wG (tV (e2 gLt (eV 8) (eV 4))) (tV (e2 GU (eV 7) (eC .non))))
  QG 100)
  (sR (bg [(eFd QF [(eV 5),(eV 6),(eV 2),(eV 3),(eV 8)]),(eV 7)])))))))
noncomputable def Dz:List Dat->Option RV:=fn 1 0
  (sR (dO (e1 (mR isI) (eV 0)) (Ai (e1 (mR isB) (eV 0)))))
noncomputable def kR:List Dat->Option RV:=fn 3 0
  (sR (dO (eF Dz [(eV 0)]) (g9 gLe gLe (eV 1) (eV 0) (eV 2))))
noncomputable def xN:List Dat->Option RV:=fn 1 0
  (sR (eF kR [(eV 0),(eC (.int 1)),(eC (.int 10))]))
noncomputable def gS:List Dat->Option RV:=fn 2 0
  (sR (eF kR [(eV 1),(eC (.int 0)),(e2 jC (eV 0) (eC (.int 1)))]))
noncomputable def f_:List Dat->Option RV:=fn 1 0
  (sR (eF kR [(eV 0),(eC (.int 1)),(eC (.int 6))]))
noncomputable def lI:List Dat->Option RV:=fn 1 0
  (sR (eF kR [(eV 0),(eC (.int 0)),(e2 g8 (eC (.int 10)) (eC (.int 30)))]))
noncomputable def j4:List Dat->Option RV:=fn 2 0
  (aB (sIf (tOr (eU (tV (e1 (mR isT) (eV 1)))) (tV (e2 gNe (eB cH [(eV 1)]) (eC (.int 3))))) (sR (eC (.bl false))) sNx)
  (sR (dO (eF lI [(e2 gIx (eV 1) (eC (.int 0)))]) (dO (eF gS [(eV 0),(e2 gIx (eV 1) (eC (.int 1)))]) (eF gS [(eV 0),(e2 gIx (eV 1) (eC (.int 2)))])))))
noncomputable def nD:List Dat->Option RV:=fn 2 0
  (sR (dO (eF j4 [(eV 0),(eV 1)]) (e2 gLe (e2 gIx (eV 1) (eC (.int 1))) (e2 gIx (eV 1) (eC (.int 2))))))
noncomputable def uW:List Dat->Option RV:=fn 1 0
  (sR (eB pW [(bO (iR2 (eC (.int 1)) (eB cH [(eV 0)])) 1 (bN 1) bI (e2 gLt (e2 gIx (eV 0) (e2 jC (eV 1) (eC (.int 1)))) (e2 gIx (eV 0) (eV 1))))]))
noncomputable def JD:List Dat->Option RV:=fn 2 0
  (sR (dO (e1 (mR isT) (eV 1)) (dO (eB pW [(aM 1 1 (bN 2) bI (eF gS [(eV 0),(eV 2)]))]) (eF uW [(eV 1)]))))
noncomputable def zf:List Dat->Option RV:=fn 1 0
  (sIf (eU (tV (eF f_ [(eV 0)]))) (fun _=>none) sNx)
noncomputable def qN:List Dat->Option RV:=fn 2 0
  (sR (aM 0 3 (bT [2,3,4]) (tV (e2 gNe (e2 gIn (eV 3) (eV 1)) (e2 gIn (eV 4) (eV 1)))) (eV 2)))
noncomputable def zg:List Dat->Option RV:=fn 3 0
  (sR (aM 0 1 (bN 3) bI (eIf (tV (e2 gEq (eV 3) (e2 gIx (eV 0) (eV 2)))) (e2 gIx (eV 0) (eV 1)) (eV 3))))
noncomputable def MR:FS:=
  (sIf (tV (e2 gNe (eV 6) (eV 7))) (m9 4 (eV 5) (bg [(eV 6),(eV 7)])) sNx)
noncomputable def MS:FS:=
  (aB (sIf (tOr (tV (e2 AD (eV 5) (eV 9))) (tOr (tV (e2 uz (eV 5) (eV 4))) (tV (e2 eZ (eV 8) (e2 gDx (eV 4) (eV 5)))))) (sR (eC (.bl false))) sNx)
  (aB (m9 9 (eV 5) (eC (.bl true)))
  (sA 8 (e2 jC (eB yQ [(e2 gDx (eV 4) (eV 5))]) (eV 8)))))
noncomputable def JE:List Dat->Option RV:=fn 4 6
  (aB (sA 4 eDn)
  (aB (dP (iS (eV 0)) (bT [5,6,7])
  MR)
  (aB (sA 8 (eV 1))
  (aB (sA 9 eDn)
  (aB (dP (iS (eV 3)) (bN 5)
  MS)
  (sR (e2 gEq (eV 8) (eV 2))))))))
noncomputable def MT:FS:=
  (GS 4 (eV 5))
noncomputable def JF:List Dat->Option RV:=fn 4 2
  (aB (sA 4 (bA []))
  (aB (dP (iS (eV 3)) (bN 5)
  MT)
  (sR (dO (e2 gEq (e1 lY (eV 4)) (eB cH [(eV 4)])) (eB pW [(aM 3 1 (bN 6) bI (eF JE [(eV 0),(eV 1),(eV 2),(eV 6)]))])))))
noncomputable def DB:FS:=
  (sIf (tV (e2 gNe (e2 gIx (eV 4) (eV 1)) (e2 gIx (eV 4) (eV 2)))) (sR (e2 bS (eV 3) (eC (.int 1)))) sNx)
noncomputable def uX:List Dat->Option RV:=fn 3 2
  (aB (dP (iEn (eV 0)) (bT [3,4])
  DB)
  (sR (eC (.int 0))))
noncomputable def DC:FS:=
  (aB (sA 8 (eF uX [(eV 3),(eV 6),(eV 7)]))
  (aB (sIf (tV (e2 gGt (eV 8) (eC (.int 0)))) (wQ 3 (e2 jC (eV 8) (eC (.int 1))) (eF zg [(e2 gIx (eV 3) (e2 jC (eV 8) (eC (.int 1)))),(eV 6),(eV 7)])) sNx)
  (pV 4 (eV 8))))
noncomputable def qO:List Dat->Option RV:=fn 3 6
  (aB (sE (eF zf [(eV 2)]))
  (aB (sA 3 (bO (iR1 (eV 2)) 1 (bN 9) bI (eB qx [(eV 0)])))
  (aB (sA 4 (bA []))
  (aB (dP (AA (eV 1)) (bT [5,6,7])
  DC)
  (sR (e1 m7 (eV 4)))))))
noncomputable def gb:List Dat->Option RV:=fn 2 0
  (aB (sIf (tOr (eU (tV (eF xN [(eV 0)]))) (tOr (eU (tV (e1 (mR isL) (eV 1)))) (tV (e2 gGt (eB cH [(eV 1)]) (eC (.int 60)))))) (sR (eC (.bl false))) sNx)
  (aB (sIf (eU (tV (eB pW [(aM 1 1 (bN 2) bI (eF nD [(eV 0),(eV 2)]))]))) (sR (eC (.bl false))) sNx)
  (sR (eF uW [(aM 1 1 (bN 2) bI (e2 gIx (eV 2) (eC (.int 0))))]))))
noncomputable def lJ:List Dat->Option RV:=fn 2 0
  (sR (aM 0 1 (bN 2) (tV (e2 gGe (e2 gIx (eV 2) (eC (.int 0))) (eV 1))) (eV 2)))
noncomputable def bx:List Dat->Option RV:=fn 1 0
  (aB (sIf (tOr (eU (tV (e1 (mR isT) (eV 0)))) (tV (e2 gNe (eB cH [(eV 0)]) (eC (.int 3))))) (sR (eC (.bl false))) sNx)
  (aB (sIf (tOr (eU (tV (eF f_ [(e2 gIx (eV 0) (eC (.int 1)))]))) (eU (tV (eF gb [(e2 gIx (eV 0) (eC (.int 0))),(e2 gIx (eV 0) (eC (.int 2)))])))) (sR (eC (.bl false))) sNx)
  (sR (e2 eZ (eC (.int 0)) (eF qO [(e2 gIx (eV 0) (eC (.int 0))),(e2 gIx (eV 0) (eC (.int 2))),(e2 gIx (eV 0) (eC (.int 1)))])))))
noncomputable def qP:List Dat->Option RV:=fn 1 0
  (sIf (eU (tV (eF bx [(eV 0)]))) (fun _=>none) sNx)
noncomputable def bz:List Dat->Bool:=fnX 1 0
  (rIf (eU (tV (eF bx [(eV 0)]))) PJ rNo)
noncomputable def zh:List Dat->Option RV:=fn 3 1
  (aB (sA 3 (eF qO [(eV 0),(eV 1),(eV 2)]))
  (sR (bg [(eV 0),(eV 2),(bO (GG (eV 1) (eV 3)) 2 (bT [4,5]) (tV (e2 gGt (eV 5) (eC (.int 0)))) (eV 4))])))
noncomputable def DG:FS:=
  (aB (sA 5 (aM 1 1 (bN 7) (tV (e2 gLe (e2 gIx (eV 7) (eC (.int 2))) (eV 4))) (eV 7)))
  (aB (sA 6 (e2 bS (eV 3) (aM 3 1 (bN 7) bI (e2 j0 (eV 7) (bg [(eV 4)])))))
  (sA 3 (aM 6 1 (bN 7) (tV (e2 gLt (eB cH [(eF qN [(eV 5),(eV 7)])]) (eV 2))) (eV 7)))))
noncomputable def uY:List Dat->Option RV:=fn 3 4
  (aB (sA 3 (bA [(bg [])]))
  (aB (dP (iR2 (eC (.int 1)) (eV 0)) (bN 4)
  DG)
  (sR (aM 3 1 (bN 7) (tV (e2 gGt (eB cH [(eV 7)]) (eC (.int 0)))) (eV 7)))))
noncomputable def nE:List Dat->Option RV:=fn 2 2
  (aB (sE (eF qP [(eV 0)]))
  (aB (sA 2 (eF lJ [(e2 gIx (eV 0) (eC (.int 2))),(eV 1)]))
  (aB (sA 3 (bO (iS (eF uY [(e2 gIx (eV 0) (eC (.int 0))),(eV 2),(e2 gIx (eV 0) (eC (.int 1)))])) 1 (bN 4) bI (bg [(eV 4),(eF qN [(eV 2),(eV 4)])])))
  (sR (eB (cE (xG (bg [(eB cH [(e2 gIx (eV 0) (eC (.int 1)))]),(e2 gIx (eV 0) (eC (.int 0)))]))) [(eV 3)])))))
noncomputable def bD:List Dat->Bool:=fnX 2 2
  (fJ bz [(eV 0)])
noncomputable def DH:List Dat->Option RV:=fn 3 0
  (sR (bO (iR2 (eC (.int 1)) (eV 0)) 1 (bN 3) bI (e2 gIx (eF QH [(eV 0),(eV 1),(eC (.int 0)),(eV 3),(eV 2)]) (eC (.int 0)))))
noncomputable def DJ:List Dat->Option RV:=fn 2 2
  (aB (sA 2 (eF nE [(eV 0),(eV 1)]))
  (aB (sIf (tV (e2 gEq (e2 gIx (eV 0) (eC (.int 0))) (eC (.int 1)))) (sR (bg [(eC (.str [97,108,111,110,101]))])) sNx)
  (aB (sA 3 (eF lJ [(e2 gIx (eV 0) (eC (.int 2))),(eV 1)]))
  (aB (sIf (tV (e2 gEq (eB cH [(eV 2)]) (eC (.int 0)))) (sR (bg [(eC (.str [116,104,105,99,107])),(eF DH [(e2 gIx (eV 0) (eC (.int 0))),(eV 3),(e2 gIx (eV 0) (eC (.int 1)))])])) sNx)
  (sR (bg [(eC (.str [99,117,116])),(e2 gIx (e2 gIx (eV 2) (eC (.int 0))) (eC (.int 0))),(eF DH [(e2 gIx (eV 0) (eC (.int 0))),(eV 3),(eB cH [(e2 gIx (e2 gIx (eV 2) (eC (.int 0))) (eC (.int 1)))])])]))))))
noncomputable def cu:List Dat->Bool:=fnX 2 2
  (fJ bD [(eV 0),(eV 1)])
noncomputable def JG:List Dat->Option RV:=fn 3 0
  (sR (dO (eF JD [(e2 gIx (eV 0) (eC (.int 0))),(eV 1)]) (dO (e2 gGt (eB cH [(eV 1)]) (eC (.int 0))) (dO (e2 eZ (eC (.int 0)) (eV 1)) (e2 gLt (eV 2) (e2 gIx (eV 0) (eC (.int 1))))))))
noncomputable def DK:List Dat->Option RV:=fn 4 0
  (aB (sIf (tV (e2 gNe (eB cH [(eV 3)]) (e2 jC (eV 0) (eC (.int 1))))) (sR (eC (.bl false))) sNx)
  (sR (eB pW [(bO (iEn (eV 3)) 2 (bT [4,5]) bI (dO (e2 gEq (eB cH [(eV 5)]) (eV 2)) (eF JF [(eV 1),(eC (.int 0)),(e2 bS (eV 4) (eC (.int 1))),(eV 5)])))])))
noncomputable def DL:List Dat->Option RV:=fn 3 2
  (aB (sE (eF qP [(eV 0)]))
  (aB (sA 3 (eF lJ [(e2 gIx (eV 0) (eC (.int 2))),(eV 1)]))
  (aB (sIf (tV (e2 gEq (e2 gIx (eV 2) (eC (.int 0))) (eC (.str [99,117,116])))) (aB (sA 4 (eB cH [(eF qN [(eV 3),(e2 gIx (eV 2) (eC (.int 1)))])]))
  (sR (dO (eF JG [(eV 0),(e2 gIx (eV 2) (eC (.int 1))),(eV 4)]) (eF DK [(e2 gIx (eV 0) (eC (.int 0))),(eV 3),(eV 4),(e2 gIx (eV 2) (eC (.int 2)))])))) sNx)
  (aB (sIf (tV (e2 gEq (e2 gIx (eV 2) (eC (.int 0))) (eC (.str [116,104,105,99,107])))) (sR (dO (e2 gGt (e2 gIx (eV 0) (eC (.int 0))) (eC (.int 1))) (eF DK [(e2 gIx (eV 0) (eC (.int 0))),(eV 3),(e2 gIx (eV 0) (eC (.int 1))),(e2 gIx (eV 2) (eC (.int 1)))]))) sNx)
  (sR (dO (e2 gEq (eV 2) (bg [(eC (.str [97,108,111,110,101]))])) (e2 gEq (e2 gIx (eV 0) (eC (.int 0))) (eC (.int 1)))))))))
noncomputable def bU:List Dat->Bool:=fnX 3 2
  (fJ bz [(eV 0)])
noncomputable def DM:FS:=
  (aB (sA 3 (e2 g7 (e2 bS (e2 bS (e2 g6 (eV 3) (eC (.int 48271))) (e2 g6 (eC (.int 7919)) (eV 5))) (eC (.int 3))) (eC (.int 2147483629))))
  (aB (sA 3 (e2 g7 (e2 g6 (eV 3) (eV 3)) (eC (.int 2147483587))))
  (sA 4 (e2 bS (e2 g6 (eV 4) (eC (.int 2147483587))) (e2 g7 (e2 bS (e2 g6 (eV 3) (eC (.int 69621))) (eV 1)) (eC (.int 2147483587)))))))
noncomputable def nF:List Dat->Option RV:=fn 2 4
  (aB (sA 2 (eC (.int 0)))
  (aB (sIf (tV (e2 gLt (eV 1) (eB cH [(eV 0)]))) (sA 2 (e2 gIx (eV 0) (eV 1))) sNx)
  (aB (sIf (tV (e2 gGe (eV 2) (e2 g8 (eC (.int 10)) (eC (.int 18))))) (sR (bA [(e2 g7 (eV 2) (e2 jX (e2 jX (e2 jX (e2 jX (e2 g8 (eC (.int 10)) (eC (.int 60))) (e2 g8 (eC (.int 10)) (eC (.int 60)))) (e2 g8 (eC (.int 10)) (eC (.int 60)))) (e2 g8 (eC (.int 10)) (eC (.int 60)))) (e2 g8 (eC (.int 10)) (eC (.int 60)))))])) sNx)
  (aB (sA 3 (e2 g7 (e2 bS (e2 bS (e2 bS (eV 2) (e2 g6 (e2 g6 (eC (.int 104729)) (eV 1)) (eV 1))) (e2 g6 (eC (.int 7)) (eV 1))) (eC (.int 11))) (eC (.int 2147483647))))
  (aB (sA 4 (eC (.int 0)))
  (aB (dP (iR1 (eC (.int 40))) (bN 5)
  DM)
  (sR (bA [(eV 4)]))))))))
noncomputable def dj:List Dat->Option (RV×Dat):=fnM 2 1
  (aB (sA 2 (e2 g7 (e2 gIx (eV 0) (eC (.int 0))) (eV 1)))
  (aB (wQ 0 (eC (.int 0)) (e2 Aj (e2 gIx (eV 0) (eC (.int 0))) (eV 1)))
  (sR (eV 2))))
noncomputable def uZ:List Dat->Option (RV×Dat):=fnM 1 0
  (sR (e2 gIx (bA [(eC (.int 1)),(eC (.int 2)),(eC (.int 3)),(eC (.int 4)),(eC (.int 5)),(eC (.int 6)),(eC (.int 4)),(eC (.int 10))]) (eFm dj 0 [(eC (.int 8))])))
noncomputable def DO:FS:=
  (aB (sA 11 (eFm dj 0 [(eV 1)]))
  (aB (sA 12 (eFm dj 0 [(eV 1)]))
  (aB (sIf (tV (e2 gEq (eV 7) (eC (.int 1)))) (sA 12 (e2 g7 (e2 bS (eV 11) (eC (.int 1))) (eV 1))) sNx)
  (aB (sIf (tV (e2 gEq (eV 7) (eC (.int 2)))) (sA 12 (e2 g7 (e2 g7 (e2 bS (e2 bS (eV 11) (e2 g7 (eV 12) (eC (.int 2)))) (eC (.int 1))) (eB mS [(eV 1),(eC (.int 3))])) (eV 1))) sNx)
  (aB (pV 9 (bg [(eV 8),(eB mS [(eV 11),(eV 12)]),(eB qp [(eV 11),(eV 12)])]))
  (sA 8 (e2 bS (e2 bS (eV 8) (eC (.int 1))) (e2 g6 (eFm dj 0 [(eV 5)]) (eV 6)))))))))
noncomputable def u5:List Dat->Option (RV×Dat):=fnM 3 10
  (aB (sA 3 (eFm dj 0 [(e2 bS (eV 2) (eC (.int 1)))]))
  (aB (sA 4 (eFm dj 0 [(eC (.int 4))]))
  (aB (sA 5 (e2 gIx (bA [(eC (.int 1)),(eC (.int 3)),(e2 g8 (eC (.int 10)) (eC (.int 6))),(eC (.int 1000))]) (eV 4)))
  (aB (sA 6 (e2 gIx (bA [(eC (.int 1)),(e2 g8 (eC (.int 10)) (eC (.int 25)))]) (eB Al [(e2 gEq (eV 4) (eC (.int 3)))])))
  (aB (sA 7 (eFm dj 0 [(eC (.int 4))]))
  (aB (sA 8 (e2 g6 (eFm dj 0 [(eV 5)]) (eV 6)))
  (aB (sA 9 (bA []))
  (aB (dP (iR1 (eV 3)) (bN 10)
  DO)
  (sR (eV 9))))))))))
noncomputable def u6:List Dat->Option RV:=fn 2 0
  (sR (aM 0 1 (bN 2) (tV (e2 gGe (e2 gIx (eV 2) (eC (.int 0))) (eV 1))) (eV 2)))
noncomputable def zj:List Dat->Option RV:=fn 2 0
  (sR (aM 0 1 (bN 2) (tV (e2 gNe (e2 gIn (e2 gIx (eV 2) (eC (.int 1))) (eV 1)) (e2 gIn (e2 gIx (eV 2) (eC (.int 2))) (eV 1)))) (e2 gIx (eV 2) (eC (.int 0)))))
noncomputable def DP:FS:=
  (sA 1 (e2 bS (eV 1) (aM 1 1 (bN 3) bI (e2 j0 (eV 3) (bg [(eV 2)])))))
noncomputable def zk:List Dat->Option RV:=fn 1 2
  (aB (sA 1 (bA [(bg [])]))
  (aB (dP (iR2 (eC (.int 1)) (eV 0)) (bN 2)
  DP)
  (sR (eSl (eV 1) (some (eC (.int 1))) none))))
noncomputable def u7:List Dat->Option (RV×Dat):=fnM 2 4
  (aB (sU [2,3,4] (eV 1))
  (aB (sA 5 (bA [(eC .non),(bA []),(bg []),(eB ud [(eV 1)]),(bg [(eV 2),(eV 3)]),(bg [(eV 2),(eV 3),(eV 4),(eC (.int 0))]),(bg [(eC (.bl true)),(eV 3),(bA [])]),(bg [(eV 2),(eC (.bl true)),(bA [])]),(bg [(eC (.int 0)),(eV 3),(bA [])]),(bg [(eV 2),(eC (.int 0)),(bA [])])]))
  (aB (sA 5 (e2 bS (eV 5) (bA [(bg [(eC (.int 11)),(eV 3),(bA [])]),(bg [(eV 2),(eC (.int 7)),(bA [])]),(bg [(eV 2),(eV 3),(eC .non)]),(bg [(eV 2),(eV 3),(e2 j0 (eB kF [(eV 4)]) (bg [(eC (.int 0))]))]),(bg [(eV 2),(eV 3),(bA [(bg [(eC (.int 0)),(eC (.int 0)),(eC (.int 0))])])]),(eC (.str [110,101,116]))])))
  (aB (sA 5 (e2 bS (eV 5) (bA [(bg [(eV 2),(eV 3),(bA [(bg [(eC (.int 3)),(eC (.int 0)),(eV 2)])])]),(bg [(eV 2),(eV 3),(bA [(bg [(e2 jC (eC (.int 0)) (eC (.int 1))),(eC (.int 0)),(eC (.int 0))])])]),(bg [(eV 2),(eV 3),(bA [(bA [(eC (.int 1)),(eC (.int 0)),(eC (.int 0))])])]),(bg [(eV 2),(eC (.int 1)),(bA [(bg [(eC (.int 1)),(eC (.int 0)),(eC (.int 0))]),(bg [(eC (.int 2)),(eC (.int 0)),(eC (.int 0))])])])])))
  (sR (e2 gIx (eV 5) (eFm dj 0 [(eB cH [(eV 5)])])))))))
noncomputable def DQ:FS:=
  (aB (sA 5 (eF zj [(eV 2),(eV 4)]))
  (sIf (tV (e2 gLt (eB cH [(eV 5)]) (eV 1))) (pV 3 (bg [(eB cH [(eV 5)]),(eV 4),(eV 5)])) sNx))
noncomputable def zl:List Dat->Option RV:=fn 3 3
  (aB (sA 3 (bA []))
  (aB (dP (iS (eF zk [(eV 0)])) (bN 4)
  DQ)
  (sR (bO (iS (eB (cE uT) [(eV 3)])) 3 (bT [6,7,8]) bI (bg [(eV 7),(eV 8)])))))
noncomputable def zm(bQ:Nat):List Dat->Option RV:=fn 2 1
  (aB (sUn (sIf (tV (e2 gEq (eV 0) (eC (.int 0)))) (sE (eF (fun ds=>nE (ds++[.int 0])) [(eV 1)])) (sIf (tV (e2 gEq (eV 0) (eC (.int 1)))) (sE (eF DJ [(eV 1),(eC (.int 3))])) (sE (eF DL [(eV 1),(eC (.int 0)),(bg [(eC (.str [97,108,111,110,101]))])])))) (qI (rIf (tV (e2 gEq (eV 0) (eC (.int 0)))) (fJ (fun ds=>bD (ds++[.int 0])) [(eV 1)]) (rIf (tV (e2 gEq (eV 0) (eC (.int 1)))) (fJ cu [(eV 1),(eC (.int 3))]) (fJ bU [(eV 1),(eC (.int 0)),(bg [(eC (.str [97,108,111,110,101]))])]))) bQ 2 (sR (bA [(e1 (j3 [bQ] [true]) (eV 2)),(e1 (j3 [bQ] [true]) (eV 2)),(e1 (j3 [bQ] [false]) (eV 2))]))))
  (sR (bA [])))
noncomputable def DR(bQ:Nat):FS:=
  (sIf (tV (e2 gNe (eF nE [(eV 6),(eV 7)]) (eF zl [(eV 3),(eV 4),(eF u6 [(eV 5),(eV 7)])]))) (sR (eC (.bl false))) sNx)
noncomputable def DU(bQ:Nat):FS:=
  (sIf (tV (e2 gNe (eF (zm bQ) [(eV 8),(eFm u7 2 [(eV 6)])]) (bA [(eC (.bl true)),(eC (.bl true)),(eC (.bl false))]))) (sR (eC (.bl false))) sNx)
noncomputable def xO(bQ:Nat):FS:=
  (aB (sA 2 (eF nF [(eV 0),(eV 1)]))
  (aB (sA 3 (eFm uZ 2 []))
  (aB (sA 4 (e2 bS (eC (.int 1)) (eFm dj 2 [(eC (.int 6))])))
  (aB (sA 5 (eFn u5 (eF nF [(eV 0),(e2 bS (eV 1) (eC (.int 1)))]) [(eV 3),(e2 gIx (bA [(eC (.int 18)),(eC (.int 8))]) (eB Al [(e2 gGt (eV 3) (eC (.int 6)))]))]))
  (aB (sA 6 (eF zh [(eV 3),(eV 5),(eV 4)]))
  (aB (dP (iS (e2 bS (e2 bS (bA [(eC (.int 0))]) (aM 5 1 (bN 9) bI (e2 gIx (eV 9) (eC (.int 0))))) (bO (iS (eSl (eV 5) (some (e1 Ak (eC (.int 1)))) none)) 1 (bN 9) bI (e2 bS (e2 gIx (eV 9) (eC (.int 0))) (eC (.int 1)))))) (bN 7)
  (DR bQ))
  (aB (sA 2 (eF nF [(eV 0),(e2 bS (eV 1) (eC (.int 2)))]))
  (dP (iR1 (eC (.int 3))) (bN 8)
  (DU bQ)))))))))
noncomputable def qQ(bQ:Nat):List Dat->Option RV:=fn 1 8
  (aB (dP (iRs (eC (.int 0)) (eB qp [(eC (.int 1)),(eB mS [(eB cH [(eV 0)]),(eC (.int 9))])]) (eC (.int 3))) (bN 1)
  (xO bQ))
  (sR (eC (.bl true))))
end P
local macro_rules|`(tactic|trivial)=>`(tactic|first | (dsimp only[List.set];first | done | rfl) | rfl)
local macro_rules | `(tactic| array_get_dec)=>`(tactic| first | with_reducible refine Dm.Xi ?_ | with_reducible refine Dm.V_ ?_ | ((with_reducible apply Dm.U_);(focus rfl)) | ((with_reducible apply Dm.XQ);(focus rfl)) | with_reducible refine Dm.W_ ?_ | (refine Dm.XA ?_ (by trivial)) | (refine Dm.Xw ?_ (by trivial)) | (refine Dm.WA.slot ?_ rfl (by trivial)) | with_reducible refine Dm.Xs ?_ (by decide) | with_reducible refine Dm.Xy ?_ | with_reducible refine Dm.Xq ?_ | with_reducible refine Dm.Xv ?_ | with_reducible refine Dm.Wt.And ?_ | with_reducible refine Dm.XM ?_ | with_reducible refine Dm.Yw ?_ | (refine Dm.Xk ?_) | (refine Dm.d9.mk ?_) | with_reducible refine Dm.XI ?_ | with_reducible refine Dm.XF ?_ | with_reducible refine Dm.T_ ?_ | with_reducible refine Dm.m_ ?_ | with_reducible refine Dm.Xz ?_ | with_reducible refine Dm.Xp ?_ | with_reducible refine Dm.Xx ?_ | with_reducible refine Dm.XG ?_ | with_reducible refine Dm.XJ ?_ | with_reducible refine Dm.YW ?_ | with_reducible refine Dm.XZ ?_ | with_reducible refine Dm.We.Or ?_ | with_reducible refine Dm.YM ?_ | with_reducible refine Dm.YH ?_ | with_reducible refine Dm.We.SlT ?_ | with_reducible refine Dm.Wp.none ?_ | with_reducible refine Dm.Wp.some ?_ | (refine Dm.Wsl.A (xK:=Dat.int) ?_ rfl) | (refine Dm.Wsl.mk ?_ rfl) | (refine Dm.Xj ?_ rfl (by trivial) (by exact Nat.le_of_ble_eq_true rfl)) | (refine Dm.Xu ?_) | (refine Dm.X0 ?_) | (refine Dm.Wk.slot ?_ rfl (by trivial)) | with_reducible refine Dm.We.Dn ?_ | with_reducible refine Dm.We.D1 ?_ | with_reducible refine Dm.Ws.Td ?_ | (refine Dm.Te ?_ rfl) | (refine Dm.MP rfl ?_) | (refine Dm.RH ?_ rfl (by trivial) ?_) | (refine Dm.Yi ?_ rfl) | (refine Dm.sI ?_ rfl (by trivial) ?_) | with_reducible refine Dm.Y3 ?_ | (refine Dm.SD ?_ rfl (by trivial)) | with_reducible refine Dm.Xr ?_ | (refine Dm.X8 ?_) | (refine Dm.Yx ?_) | (refine Dm.YC ?_ rfl) | with_reducible refine Dm.XH ?_ | with_reducible refine Dm.Ws.bk ?_ | with_reducible refine Dm.Ws.ct ?_ | with_reducible refine Dm.YU ?_ | with_reducible refine Dm.XT ?_ | with_reducible refine Dm.Yq ?_ | with_reducible refine Dm.Wi.L ?_ | with_reducible refine Dm.Yj ?_ | with_reducible refine Dm.YI ?_ | (refine Dm.RI ?_) | (refine Dm.RJ ?_) | (refine Dm.Yb ?_ rfl rfl) | (refine Dm.XY ?_ rfl rfl) | (refine Dm.Wg2.S3 ?_ rfl rfl ?_) | (refine Dm.Wg2.S4 ?_ rfl rfl ?_) | (refine Dm.Wg2.eqb ?_ rfl rfl) | (refine Dm.Yo ?_ rfl rfl) | (refine Dm.Wg2.SE ?_ rfl rfl) | (refine Dm.Wg2.isb ?_ rfl rfl) | (refine Dm.Yh ?_ rfl rfl) | (refine Dm.YN ?_ rfl rfl) | (refine Dm.X7 ?_ rfl rfl) | (refine Dm.Ys ?_ rfl rfl) | (refine Dm.XO ?_ rfl rfl) | (refine Dm.Wg2.Tf ?_ rfl rfl ?_) | (refine Dm.Wg2.S5 ?_ rfl rfl ?_) | (refine Dm.X5 ?_ rfl rfl ?_) | (refine Dm.X3 ?_ rfl rfl) | (refine Dm.Ye ?_ rfl rfl (by first | exact Or.inl (by decide) | exact Or.inr (by decide))) | (refine Dm.Ye ?_ rfl rfl ?_) | (refine Dm.YA ?_ rfl rfl (by decide)) | (refine Dm.YA ?_ rfl rfl ?_) | (refine Dm.XX ?_ rfl rfl (by decide)) | (refine Dm.XX ?_ rfl rfl ?_) | (refine Dm.Wg2.din ?_ rfl rfl) | (refine Dm.Wg2.Tg ?_ rfl rfl) | (refine Dm.Wg2.inP ?_ rfl rfl) | (refine Dm.Wg2.Th ?_ rfl rfl) | (refine Dm.Xm ?_ rfl rfl rfl) | (refine Dm.X_ (xK:=Dat.int) ?_ rfl) | (refine Dm.Yu ?_ rfl) | (refine Dm.X6 ?_ rfl) | (refine Dm.Yg ?_ rfl) | (refine Dm.Yp ?_ rfl) | (refine Dm.WB.list ?_ rfl) | (refine Dm.Yt ?_ rfl) | (refine Dm.WB.sum2 ?_ rfl ?_) | (refine Dm.Wg1.Ti (xK:=Dat.int) ?_ rfl) | (refine Dm.XN ?_ rfl rfl))
namespace P
open Dm Fl
section
variable{r:List Tie}{Q:Val->Env->Prop}{ρ ρ1:Env}{ms:List Int}{key:Dat->Option (List Int)}{ds:List Dat}{o p:Option Dat}{K:RV->Prop}{n:Nat}{a b:Env->Option Env}{d t:Dat}{k:Nat}{R:RV->Env->Prop}{f:List Int->Dat}{α:Type}{ts:List Tie}{xs:List Val}{N:Env->Prop}{j:Nat}{x m:Int}{c:Bool}{i:Nat}{it:FI}{e:FE}
noncomputable def b_(t:Tie):Dat:=.tup [.int t.m,.int t.a,.int t.b]
noncomputable def bh(r:List Tie):Dat:=.lst (r.map b_)
noncomputable def tupI(S:List Int):Dat:=.tup (S.map Dat.int)
noncomputable def ovr(S:List Int)(t:Tie):Bool:=decide (t.a∈S) != decide (t.b∈S)
noncomputable def bL(r:List Tie)(S:List Int):List Int:=(r.filter (ovr S)).map (·.m)
theorem dS(x n:Int)(h:1<=n):0<=x % n/\x % n<n:=⟨Int.emod_nonneg x (by lia),Int.emod_lt_of_pos x (by lia)⟩
noncomputable def at'(ns:List Int)(i:Int):Int:=ns.getD i.toNat 0
theorem MU(ns:List Int)(i:Int)(h0:0<=i)(h1:i<ns.length):gIx (.lst (ns.map Dat.int)) (.int i)=some (.val (.int (at' ns i))):=by show (atI (ns.map Dat.int) i).map RV.val=_;rw[Dm.mq Dat.int ns i h0 h1];unfold at';rw[UG,Tv (by lia)];rfl
theorem QI{ns:List Int}{i:Int}(h0:0<=i)(h1:i<ns.length)(k:K (.val (.int (at' ns i))))(ho:o=some (.lst (ns.map Dat.int)))(hp:p=some (.int i)):Wg2 gIx o p K:=⟨_,_,_,ho,hp,MU ns i h0 h1,k⟩
theorem Yk{i j:Int}(k:K (.val (.int (i*j))))(ho:o=some (.int i))(hp:p=some (.int j))(h:i.natAbs.log2<1000000/\j.natAbs.log2<1000000):Wg2 jX o p K:=⟨_,_,_,ho,hp,by unfold jX;dsimp only;rw[if_pos h],k⟩
noncomputable def a_(x:Int):Dat:=.lst [.int x]
noncomputable abbrev Z60:Int:=1000000000000000000000000000000000000000000000000000000000000
theorem sJ(ns:List Int)(k:Int)(h0:0<=k)(h1:k<1000):∃x,nF [.lst (ns.map Dat.int),.int k]=some (.new (a_ x)):=by
 suffices h:Wr (nF [.lst (ns.map Dat.int),.int k]) fun v=>∃x,v=.new (a_ x) by obtain⟨v,h1,c,rfl⟩:=h;exact⟨c,h1⟩
 unfold nF
 (refine Dm.Xn ?_ rfl rfl;and_intros)
 refine Xi (Xs (W_ (XA ?_ (by trivial))) (by decide));refine XR (fun ρ=>∃c:Int,ρ=[.sh (.lst (ns.map Dat.int)),.sh (.int k),.sh (.int c),.un,.un,.un]) ?_ ?_
 ·repeat array_get_dec
  refine⟨fun h=>?_,fun h=>?_⟩
  ·have h:=of_decide_eq_true h
   repeat array_get_dec
   refine QI h0 (by simpa using h) ?_ rfl rfl
   repeat array_get_dec
   exact⟨_,rfl⟩
  ·repeat array_get_dec
   exact⟨_,rfl⟩
 rintro ρ ⟨c,rfl⟩;refine Xi (Xy (Xq (V_ (U_ rfl (V_ (W_ (W_ (X4 (z:=1000000000000000000) ?_ rfl rfl (by decide) (by decide)))))))));refine Ys (Xk ?_) rfl rfl;have p60:∀{K:RV->Prop} {o p:Option Dat},K (.val (.int Z60))->o=some (.int 10)->p=some (.int 60)->Wg2 g8 o p K:=fun k ho hp=>X4 (z:=Z60) k ho hp (by decide) (by decide +kernel);refine⟨fun h=>?_,fun h=>?_⟩
 ·refine Xr (XG (m_ (V_ (U_ rfl ?_))));refine V_ (V_ (V_ (V_ (V_ (W_ (W_ (p60 ?_ rfl rfl)))))));refine V_ (W_ (W_ (p60 ?_ rfl rfl)));refine Yk ?_ rfl rfl (by decide +kernel);refine V_ (W_ (W_ (p60 ?_ rfl rfl)));refine Yk ?_ rfl rfl (by decide +kernel);refine V_ (W_ (W_ (p60 ?_ rfl rfl)));refine Yk ?_ rfl rfl (by decide +kernel);refine V_ (W_ (W_ (p60 ?_ rfl rfl)));refine Yk ?_ rfl rfl (by decide +kernel);refine XX ?_ rfl rfl (by decide +kernel);refine T_ (Xj ?_ rfl rfl (by exact Ut rfl));exact⟨_,rfl⟩
 ·refine XH ?_;refine XR (fun ρ=>∃x:Int,(0<=x/\x<2147483647)/\ρ=[.sh (.lst (ns.map Dat.int)),.sh (.int k),.sh (.int c),.sh (.int x),.un,.un]) ?_ ?_
  ·repeat array_get_dec
   ·exact⟨_,dS _ _ (by decide),rfl⟩
   ·exact .inr (by unfold B64;lia)
  rintro ρ ⟨x,hx,rfl⟩;refine Xi (Xs (W_ (XA ?_ (by trivial))) (by decide));refine Xi (XT (Yj (W_ (d9.mk ⟨?_,by decide,by decide⟩))));refine XU (fun i:Nat=>Dat.int (0+(i:Nat))) _ _ (TV 40) _ _ _ _ _ (fun p q ρ=>∃(x f:Int) (c5:Cell),(0<=x/\x<2147483647)/\ρ=[.sh (.lst (ns.map Dat.int)),.sh (.int k),.sh (.int c),.sh (.int x),.sh (.int f),c5]) ⟨_,_,_,hx,rfl⟩ ?_ ?_
  ·rintro p i q ρ e ⟨x,f,c5,hx,rfl⟩;refine Dm.cV rfl (by trivial) ?_;unfold DM;refine XR (fun ρ=>∃y:Int,(0<=y/\y<2147483647)/\ρ=[.sh (.lst (ns.map Dat.int)),.sh (.int k),.sh (.int c),.sh (.int y),.sh (.int f),.sh (.int (0+(i:Nat)))]) ?_ ?_
   ·repeat array_get_dec
    exact⟨_,by have:=dS (x*48271+7919*(0+((i:Nat):Int))+3) 2147483629 (by decide);lia,rfl⟩
   rintro ρ ⟨y,hy,rfl⟩;refine XR (fun ρ=>∃y:Int,(0<=y/\y<2147483647)/\ρ=[.sh (.lst (ns.map Dat.int)),.sh (.int k),.sh (.int c),.sh (.int y),.sh (.int f),.sh (.int (0+(i:Nat)))]) ?_ ?_
   ·repeat array_get_dec
    ·exact⟨_,by have:=dS (y*y) 2147483587 (by decide);lia,rfl⟩
    ·exact .inl (by unfold B64;lia)
   rintro ρ ⟨z,hz,rfl⟩
   repeat array_get_dec
   exact⟨_,_,_,hz,rfl⟩
  ·rintro ρ ⟨x,f,c5,hx,rfl⟩
   repeat array_get_dec
   exact⟨_,rfl⟩
theorem HC(x m:Int)(h0:0<m)(h1:m<jH):dj [a_ x,.int m]=some (.val (.int (x % m)),a_ (x / m)):=by
 suffices h:WrM (dj [a_ x,.int m]) fun v d=>v=.val (.int (x % m))/\d=a_ (x / m) by obtain⟨v,d,h1,rfl,rfl⟩:=h;exact h1
 unfold dj;refine Yn ?_ rfl rfl;and_intros;unfold a_
 repeat array_get_dec
 ·refine YL ?_
  repeat array_get_dec
  ·refine⟨_,0,_,rfl,rfl,rfl,?_⟩
   repeat array_get_dec
   exact⟨_,rfl,rfl,rfl⟩
  ·exact⟨h0,h1⟩
 ·exact h0
def Wtk(j:Nat)(m:Int)(ρ1:Env)(Q:Val->Env->Prop):Prop:=∃x ρ3,Q (.val (.int (x % m))) ρ3/\ρ1[j]?=some (.ow (a_ x))/\ρ1.set j (.ow (a_ (x / m)))=ρ3/\0<m/\m<jH
theorem zo{ρ1 ρ3:Env}(q:Q (.val (.int (x % m))) ρ3)(h2:ρ1[j]?=some (.ow (a_ x)))(hn:ρ1.set j (.ow (a_ (x / m)))=ρ3)(h0:0<m)(h1:m<jH):Wtk j m ρ1 Q:=⟨_,_,q,h2,hn,h0,h1⟩
theorem Yz{a:FE}{ρ:Env}{d0:Dat}(h:We a ρ fun v ρ1=>d9 v fun m=>Wtk j m ρ1 Q)(h0:ρ[j]?=some (.ow d0)):We (eFm dj j [a]) ρ Q:=by refine YJ (m_ ?_) h0;obtain⟨v,ρ1,e1,m,rfl,x,ρ3,q,e2,e3,m0,m1⟩:=h;exact⟨_,_,e1,T_ (Yr (HC x m m0 m1) q e2 rfl e3)⟩
theorem XW{a:FE}{ρ:Env}(ha:a ρ=some (.val (.int m),ρ))(h0:0<m)(h1:m<jH)(hj:ρ[j]?=some (.ow (a_ x)))(k:∀t x':Int,0<=t->t<m->∀ρ3,ρ.set j (.ow (a_ x'))=ρ3->Q (.val (.int t)) ρ3):We (eFm dj j [a]) ρ Q:=
 Yz ⟨_,_,ha,m,rfl,zo (k _ _ (dS x m (by lia)).1 (dS x m (by lia)).2 _ rfl) hj rfl h0 h1⟩ hj
def Good(n:Int):Int->List Tie->Prop
 |_,[]=>True
 |lo,t::r=>lo<=t.m/\0<=t.a/\t.a<=t.b/\t.b<n/\Good n (t.m+1) r
theorem Good.lo{n:Int}:∀{r:List Tie} {lo:Int},Good n lo r->∀t∈r,lo<=t.m
 |[],_,_,t,ht=>by cases ht
 |u::r,lo,h,t,ht=>by
  obtain⟨h1,h2,h3,h4,h5⟩:=h;rcases Tp.mp ht with rfl | ht
  ·exact h1
  ·have:=Good.lo h5 t ht;lia
theorem Good.snoc{n:Int}:∀{r:List Tie} {lo hi:Int} {t:Tie},Good n lo r->(∀u∈r,u.m<hi)->lo<=hi->hi=t.m->0<=t.a->t.a<=t.b->t.b<n->Good n lo (r++[t])
 |[],_,_,_,_,_,h,e,h1,h2,h3=>⟨by lia,h1,h2,h3,trivial⟩
 |u::r,lo,hi,t,h,hu,hl,e,h1,h2,h3=>by obtain⟨k1,k2,k3,k4,k5⟩:=h;exact⟨k1,k2,k3,k4,Good.snoc k5 (fun v hv=>hu v (Tq _ hv)) (by have:=hu u To;lia) e h1 h2 h3⟩
theorem HD(x:Int):∃(n x':Int),uZ [a_ x]=some (.val (.int n),a_ x')/\1<=n/\n<=10:=by
 suffices h:WrM (uZ [a_ x]) fun v d=>∃n x':Int,v=.val (.int n)/\d=a_ x'/\1<=n/\n<=10 by obtain⟨v,d,h1,n,x',rfl,rfl,h2⟩:=h;exact⟨n,x',h1,h2⟩
 unfold uZ;refine Yn ?_ rfl rfl;and_intros;refine Xr (V_ ?_)
 repeat array_get_dec
 refine XW (m:=8) rfl (by decide) (by decide) rfl fun t x' h0 h1 ρ3 e=>?_;subst e;have:t=0\/t=1\/t=2\/t=3\/t=4\/t=5\/t=6\/t=7:=by lia
 rcases this with rfl | rfl | rfl | rfl | rfl | rfl | rfl | rfl <;>
 ·refine Xm ?_ rfl rfl rfl;exact⟨_,rfl,_,x',rfl,rfl,by decide,by decide⟩
theorem ix4(a b c d:Int)(x:Int)(h0:0<=x)(h:x<4):gIx (.lst [.int a,.int b,.int c,.int d]) (.int x)=some (.val (.int (if x=0 then a else if x=1 then b else if x=2 then c else d))):=by
 have:x=0\/x=1\/x=2\/x=3:=by lia
 rcases this with rfl | rfl | rfl | rfl<;>rfl
noncomputable abbrev Z28:Int:=10000000000000000000000000000
noncomputable abbrev Z30:Int:=1000000000000000000000000000000
noncomputable def RE(pool:Int)(n most many kind step times way MV:Int)(r:List Tie)(c10 c11 c12:Cell):Env:=
 [.ow (a_ pool),.sh (.int n),.sh (.int most),.sh (.int many),.sh (.int kind),.sh (.int step),.sh (.int times),.sh (.int way),.sh (.int MV),.ow (bh r),c10,c11,c12]
theorem HE(a b:Int):(if b<a then b else a)<=(if b>a then b else a):=by split<;>split<;>lia
theorem AY(x n most:Int)(n1:1<=n)(n10:n<=10)(m0:0<=most)(m60:most<=60) :
  ∃(r:List Tie) (x':Int),u5 [a_ x,.int n,.int most]=some (.new (bh r),a_ x')/\Good n 0 r/\(r.length:Int)<=most/\∀t∈r,t.m<=Z30:=by
 suffices hh:WrM (u5 [a_ x,.int n,.int most]) fun v d=>∃(r:List Tie) (x':Int),v=.new (bh r)/\d=a_ x'/\Good n 0 r/\(r.length:Int)<=most/\∀t∈r,t.m<=Z30 by obtain⟨v,d,h1,h,x',rfl,rfl,h2⟩:=hh;exact⟨h,x',h1,h2⟩
 unfold u5;refine Yn ?_ rfl rfl;and_intros;refine Xi (Xs ?_ (by decide));refine XW (m:=most+1) rfl (by lia) (by unfold jH;lia) rfl fun many x1 h1 h2 ρ3 e=>?_;subst e;refine XA ?_ (by trivial);refine Xi (Xs ?_ (by decide));refine XW (m:=4) rfl (by decide) (by decide) rfl fun kind x2 k1 k2 ρ3 e=>?_;subst e;refine XA ?_ (by trivial);refine XR (fun ρ=>∃step:Int,(1<=step/\step<=1000000/\(kind=3->step<=1000))/\ρ=[.ow (a_ x2),.sh (.int n),.sh (.int most),.sh (.int many),.sh (.int kind),.sh (.int step),.un,.un,.un,.un,.un,.un,.un]) ?_ ?_
 ·refine Xs (V_ (XG (m_ (W_ (m_ (W_ (m_ (V_ (W_ (W_ (X4 (z:=1000000) ?_ rfl rfl (by decide) (by decide)))))))))))) (by decide);refine m_ (W_ (T_ (Xj ?_ rfl rfl (by exact Ut rfl))));refine U_ rfl (Xm ?_ rfl rfl (ix4 1 3 1000000 1000 kind k1 k2));refine XA ?_ (by trivial);refine⟨_,?_,rfl⟩;have:kind=0\/kind=1\/kind=2\/kind=3:=by lia
  rcases this with q | q | q | q<;>rw[q]<;>decide
 rintro ρ ⟨step,hs,rfl⟩;refine XR (fun ρ=>∃times:Int,(0<=times/\step*times<=Z28)/\ρ=[.ow (a_ x2),.sh (.int n),.sh (.int most),.sh (.int many),.sh (.int kind),.sh (.int step),.sh (.int times),.un,.un,.un,.un,.un,.un]) ?_ ?_
 ·refine Xs (V_ (XG (m_ (W_ (m_ (V_ (W_ (W_ (X4 (z:=10000000000000000000000000) ?_ rfl rfl (by decide) (by decide)))))))))) (by decide);refine T_ (Xj ?_ rfl rfl (by exact Ut rfl));refine Xz (m_ (V_ (U_ rfl (W_ (Yb ?_ rfl rfl)))));refine T_ (Yt ?_ rfl);by_cases q:kind=3
  ·rw[decide_eq_true q];refine Xm (v:=.int 10000000000000000000000000) ?_ rfl rfl rfl;exact XA ⟨10000000000000000000000000,⟨by decide,by have:=hs.2.2 q;unfold Z28;lia⟩,rfl⟩ (by trivial)
  ·rw[decide_eq_false q];refine Xm (v:=.int 1) ?_ rfl rfl rfl;exact XA ⟨1,⟨by decide,by unfold Z28;lia⟩,rfl⟩ (by trivial)
 rintro ρ ⟨times,⟨ht,hst⟩,rfl⟩;have tb:∀t:Int,0<=t->t<step->t*times<=Z28:=fun t _ t2=>Int.le_trans (Int.mul_le_mul_of_nonneg_right (Int.le_of_lt t2) ht) hst;refine Xi (Xs ?_ (by decide));refine XW (m:=4) rfl (by decide) (by decide) rfl fun way x3 w1 w2 ρ3 e=>?_;subst e;refine XA ?_ (by trivial);refine XR (fun ρ=>∃x4 mo:Int,(0<=mo/\mo<=Z28)/\ρ=[.ow (a_ x4),.sh (.int n),.sh (.int most),.sh (.int many),.sh (.int kind),.sh (.int step),.sh (.int times),.sh (.int way),.sh (.int mo),.un,.un,.un,.un]) ?_ ?_
 ·refine Xs (V_ ?_) (by decide);refine XW (m:=step) rfl (by lia) (by unfold jH;lia) rfl fun t x4 t1 t2 ρ3 e=>?_;subst e;refine U_ rfl (Ye ?_ rfl rfl (.inl (by unfold B64;lia)));exact XA ⟨_,_,⟨Int.mul_nonneg t1 ht,tb t t1 t2⟩,rfl⟩ (by trivial)
 rintro ρ ⟨x4,mo,hmo,rfl⟩;refine Xi (Xs (XG (T_ (Xj ?_ rfl rfl (by decide)))) (by decide));refine Xw ?_ (by trivial);refine Xi (XT (Yj (U_ rfl (d9.mk ⟨?_,by unfold BIG;lia⟩))));refine XU (fun i:Nat=>Dat.int (0+(i:Nat))) _ _ (TV many.toNat) _ _ _ _ _ (fun p q ρ=>∃(x mo:Int) (r:List Tie) (c10 c11 c12:Cell),ρ=RE x n most many kind step times way mo r c10 c11 c12/\Good n 0 r/\r.length=p.length/\(∀u∈r,u.m<mo)/\0<=mo/\mo<=((p.length:Int)+1)*(Z28+1))
  ⟨_,_,[],_,_,_,rfl,trivial,rfl,(fun u hu=>by cases hu),hmo.1,by have:=hmo.2;simp;lia⟩ ?_ ?_
 ·rintro p i q ρ e ⟨x,mo,r,c10,c11,c12,rfl,hg,hl,hu,hm,hM⟩;have lp:p.length<100:=by
   have:(TV many.toNat).length=p.length+(q.length+1):=by rw[e];simp
   rw[Uq]at this;lia
  unfold RE;refine Dm.cV rfl (by trivial) ?_;unfold DO;refine Xi (Xs ?_ (by decide));refine XW (m:=n) rfl (by lia) (by unfold jH;lia) rfl fun one y1 o1 o2 ρ3 e=>?_;subst e;refine XA ?_ (by trivial);refine Xi (Xs ?_ (by decide));refine XW (m:=n) rfl (by lia) (by unfold jH;lia) rfl fun oth y2 u1 u2 ρ3 e=>?_;subst e;refine XA ?_ (by trivial);refine XR (fun ρ=>∃o:Int,(0<=o/\o<n)/\ρ=RE y2 n most many kind step times way mo r (.sh (.int (0+(i:Nat)))) (.sh (.int one)) (.sh (.int o))) ?_ ?_
  ·refine Xy (Xq (V_ (U_ rfl (W_ (Yb (Xk ?_) rfl rfl)))));refine YD (fun _=>?_) fun _=>?_
   ·refine Xs (V_ (V_ (U_ rfl (W_ (XO (U_ rfl (XX ?_ rfl rfl (by lia))) rfl rfl))))) (by decide);exact XA ⟨_,dS _ n n1,rfl⟩ (by trivial)
   ·exact XH ⟨oth,⟨u1,u2⟩,rfl⟩
  rintro ρ ⟨o,⟨q1,q2⟩,rfl⟩;refine XR (fun ρ=>∃o:Int,(0<=o/\o<n)/\ρ=RE y2 n most many kind step times way mo r (.sh (.int (0+(i:Nat)))) (.sh (.int one)) (.sh (.int o))) ?_ ?_
  ·unfold RE;refine Xy (Xq (V_ (U_ rfl (W_ (Yb (Xk ?_) rfl rfl)))));refine YD (fun _=>?_) fun _=>?_
   ·refine Xs (V_ (V_ (V_ (V_ (U_ rfl (V_ (U_ rfl (W_ (XX ?_ rfl rfl (by decide)))))))))) (by decide);refine XO ?_ rfl rfl;refine W_ (XO ?_ rfl rfl);refine Xz (m_ (U_ rfl (m_ (W_ (T_ (Yg ?_ rfl))))));refine XX ?_ rfl rfl (by split<;>lia);refine U_ rfl (XX ?_ rfl rfl (by lia));exact XA ⟨_,dS _ n n1,rfl⟩ (by trivial)
   ·exact XH ⟨o,⟨q1,q2⟩,rfl⟩
  rintro ρ ⟨o,⟨q1,q2⟩,rfl⟩;unfold RE;refine Xi (Yi (Xx (m_ (U_ rfl (m_ (Xz (m_ (U_ rfl (m_ (U_ rfl (T_ (Yg ?_ rfl))))))))))) rfl);refine m_ (Xz (m_ (U_ rfl (m_ (U_ rfl (T_ (Yp ?_ rfl)))))));refine T_ (Xj ?_ rfl rfl (by exact Ut rfl));refine Xu (sI ?_ rfl (by trivial) (by rw[Dp];unfold SZ;lia));refine Xs (V_ (V_ (U_ rfl (W_ (XO ?_ rfl rfl))))) (by decide);refine V_ ?_;refine XW (m:=step) rfl (by lia) (by unfold jH;lia) rfl fun t x4 t1 t2 ρ3 e=>?_;subst e;refine U_ rfl (Ye ?_ rfl rfl (.inl (by unfold B64;lia)));refine XO ?_ rfl rfl;refine XA ?_ (by trivial);have tn:=Int.mul_nonneg t1 ht;refine⟨x4,mo+1+t*times,r++[⟨mo,(if o<one then o else one),(if o>one then o else one)⟩],.sh (.int (0+(i:Nat))),.sh (.int one),.sh (.int o),?_,?_,by simp[hl],?_,by lia,?_⟩
  ·unfold bh;rw[Uw];rfl
  ·refine Good.snoc (hi:=mo) hg hu hm rfl ?_ (HE one o) ?_
   ·show 0<=(if o<one then o else one);split<;>lia
   ·show (if o>one then o else one)<n;split<;>lia
  ·intro u hu';rcases T9.mp hu' with h | h
   ·have:=hu u h;lia
   ·rw[TJ.mp h];show mo<_;lia
  ·have:=tb t t1 t2;rw[Tz,VC];have e:(((p.length+1:Nat):Int)+1)*(Z28+1)=((p.length:Int)+1)*(Z28+1)+(Z28+1):=by
    rw[Int.natCast_add,Int.add_mul (((p.length:Int))+((1:Nat):Int)) 1,Int.one_mul];rfl
   rw[e]
   lia
 ·rintro ρ ⟨x,mo,r,c10,c11,c12,rfl,hg,hl,hu,hm,hM⟩;unfold RE;refine Xr (XQ rfl (YC ?_ rfl));rw[Uq]at hM hl;refine⟨_,rfl,r,x,rfl,rfl,hg,?_,fun t ht=>?_⟩
  ·rw[hl]
   lia
  ·have h1:=hu t ht;have h2:((many.toNat:Int)+1)*(Z28+1)<=61*(Z28+1):=Int.mul_le_mul_of_nonneg_right (by lia) (by decide);have h3:(61:Int)*(Z28+1)<=Z30:=by decide
   lia
theorem HF{x y:Tie}(h:x.m=y.m/\x.a=y.a/\x.b=y.b):x=y:=by cases x;cases y;simp only[Tie.mk.injEq];exact h
instance SG:DecidableEq Tie:=fun x y=>decidable_of_iff (x.m=y.m/\x.a=y.a/\x.b=y.b) ⟨HF,fun h=>by rw[h];exact⟨rfl,rfl,rfl⟩⟩
theorem u9(i:Int):Dz [.int i]=some (.val (.bl true)):=by
 apply Xo;unfold Dz
 (refine Dm.Xn ?_ rfl rfl;and_intros)
 refine Xr (XZ (XJ (U_ rfl (XN ?_ rfl rfl))));refine Xk (XI (YM (XJ (U_ rfl (XN ?_ rfl rfl)))));exact Xk rfl
theorem eS(i lo hi:Int)(h0:lo<=i)(h1:i<=hi):kR [.int i,.int lo,.int hi]=some (.val (.bl true)):=by unfold kR;simp[fn,sR,dO,eF,eAs,eV,pks,pk,u9,RV.bH,RV.dat,fH,g9,gLe,h0,h1]
theorem nG(k:Int)(h0:1<=k)(h1:k<=6):zf [.int k]=some (.val .non):=by
 have e:f_ [.int k]=some (.val (.bl true)):=by
  apply Xo;unfold f_
  (refine Dm.Xn ?_ rfl rfl;and_intros)
  refine Xr (Xp (m_ (U_ rfl (m_ (W_ (m_ (W_ (T_ (Xl (eS k 1 6 h0 h1) ?_ rfl rfl)))))))));rfl
 apply Xo;unfold zf
 (refine Dm.Xn ?_ rfl rfl;and_intros)
 refine Xy (Xv (Xq (Xp (m_ (U_ rfl (T_ (Xl e ?_ rfl rfl)))))));exact Xk (XF (XH rfl))
noncomputable def mgf(f:Int->Int)(a b:Int):Int->Int:=fun x=>if f x=f b then f a else f x
inductive Con(ts:List Tie):Int->Int->Prop
 |refl (x:Int):Con ts x x
 |tie (t:Tie):t∈ts->Con ts t.a t.b
 |symm {x y:Int}:Con ts x y->Con ts y x
 |trans {x y z:Int}:Con ts x y->Con ts y z->Con ts x z
theorem Con.mono{ts us:List Tie}(h:∀t∈ts,t∈us){x y:Int}(c:Con ts x y):Con us x y:=by
 induction c with
 |refl x=>exact .refl x
 |tie t m=>exact .tie t (h t m)
 |symm _ ih=>exact .symm ih
 |trans _ _ i1 i2=>exact .trans i1 i2
def Tells(f:Int->Int)(ts:List Tie):Prop:=∀x y,f x=f y↔Con ts x y
theorem Con.nil{x y:Int}(c:Con [] x y):x=y:=by
 induction c with
 |refl x=>rfl
 |tie t m=>cases m
 |symm _ ih=>exact ih.symm
 |trans _ _ i1 i2=>exact i1.trans i2
theorem tells_nil:Tells (fun x=>x) []:=fun x y=>⟨fun h=>by cases h;exact .refl _,fun c=>c.nil⟩
theorem tells_mgf{f:Int->Int}(h:Tells f ts)(t:Tie)(a b:Int)(SA:(a=t.a/\b=t.b)\/(a=t.b/\b=t.a)):Tells (mgf f a b) (t::ts):=by
 have up:∀{x y},f x=f y->Con (t::ts) x y:=fun e=>Con.mono (fun u m=>Tq _ m) ((h _ _).mp e);have ab:Con (t::ts) a b:=by
  rcases SA with⟨rfl,rfl⟩ | ⟨rfl,rfl⟩
  ·exact .tie t To
  ·exact .symm (.tie t To)
 intro x y;unfold mgf;constructor
 ·intro e;by_cases hx:f x=f b
  ·rw[if_pos hx]at e;by_cases hy:f y=f b
   ·exact up (hx.trans hy.symm)
   ·rw[if_neg hy]at e;exact .trans (up hx) (.trans (.symm ab) (up e))
  ·rw[if_neg hx]at e;by_cases hy:f y=f b
   ·rw[if_pos hy]at e;exact .trans (up e) (.trans ab (.symm (up hy)))
   ·rw[if_neg hy]at e;exact up e
 ·intro c;have key:∀{x y:Int},Con (t::ts) x y->(if f x=f b then f a else f x)=(if f y=f b then f a else f y):=fun c=>by
   induction c with
   |refl x=>rfl
   |tie u m=>
    rcases Tp.mp m with rfl | m
    ·rcases SA with⟨rfl,rfl⟩ | ⟨rfl,rfl⟩
     ·rw[if_pos (rfl:f u.b=f u.b)];split
      ·rfl
      ·rfl
     ·rw[if_pos (rfl:f u.a=f u.a)];split
      ·rfl
      ·rfl
    ·have e:=(h u.a u.b).mpr (.tie u m);rw[e]
   |symm _ ih=>exact ih.symm
   |trans _ _ i1 i2=>exact i1.trans i2
  exact key c
noncomputable def lay(r:List Tie)(ms:List Int)(j:Int):List Tie:=((r.zip ms).filter fun p=>decide (p.2=j)).map (·.1)
theorem j5(t:Tie)(m:Int)(r:List Tie)(ms:List Int)(j:Int):lay (t::r) (m::ms) j=if m=j then t::lay r ms j else lay r ms j:=by unfold lay;rw[UP,T7];by_cases h:m=j<;>simp[h]
def qR(k:Int)(r:List Tie)(ms:List Int)(t:Tie)(m:Int):Prop:=
 (m=0/\∀j,1<=j->j<=k->Con (lay r ms j) t.a t.b)\/(1<=m/\m<=k/\¬Con (lay r ms m) t.a t.b/\∀j,1<=j->j<m->Con (lay r ms j) t.a t.b)
def bG(k:Int):List Tie->List Int->Prop
 |[],[]=>True
 |t::r,m::ms=>bG k r ms/\qR k r ms t m
 |_,_=>False
theorem qR.uniq{k:Int}{t:Tie}{m m':Int}(h:qR k r ms t m)(h':qR k r ms t m'):m=m':=by
 rcases h with⟨rfl,h⟩ | ⟨h1,h2,h3,h4⟩
 ·rcases h' with⟨rfl,_⟩ | ⟨g1,g2,g3,_⟩
  ·rfl
  ·exact absurd (h m' g1 g2) g3
 ·rcases h' with⟨rfl,h'⟩ | ⟨g1,g2,g3,g4⟩
  ·exact absurd (h' m h1 h2) h3
  ·rcases Int.lt_trichotomy m m' with q | q | q
   ·exact absurd (g4 m h1 q) h3
   ·exact q
   ·exact absurd (h4 m' g1 q) g3
theorem bG.len{k:Int}:∀{r:List Tie} {ms:List Int},bG k r ms->ms.length=r.length
 |[],[],_=>rfl
 |_::r,_::ms,h=>by simp[bG.len h.1]
 |[],_::_,h=>h.elim
 |_::_,[],h=>h.elim
theorem bG.uniq{k:Int}:∀{r:List Tie} {ms ms':List Int},bG k r ms->bG k r ms'->ms=ms'
 |[],[],[],_,_=>rfl
 |_::r,m::ms,m'::ms',h,h'=>by have e:=bG.uniq h.1 h'.1;subst e;rw[h.2.uniq h'.2]
 |[],_::_,_,h,_=>h.elim
 |[],[],_::_,_,h=>h.elim
 |_::_,[],_,h,_=>h.elim
 |_::_,_::_,[],_,h=>h.elim
noncomputable def lab(n:Nat)(f:Int->Int):Dat:=.lst ((TV n).map fun(i:Nat)=>Dat.int (f i))
theorem sL(n:Nat)(f:Int->Int)(x:Int)(h0:0<=x)(h1:x<n):gIx (lab n f) (.int x)=some (.val (.int (f x))):=by
 unfold lab gIx atI ixN;have hx:x.toNat<n:=by lia
 have hc:((x.toNat:Nat):Int)=x:=by lia
 simp only[Dp,Uq,h0,h1,if_true];simp[U9 hx,hc]
theorem MW(n:Nat):Dat.lst (ups 0 n)=lab n fun x=>x:=by unfold ups lab;simp
theorem HG(n:Nat)(f:Int->Int):lab n f=.lst (((TV n).map fun(i:Nat)=>f i).map Dat.int):=by unfold lab;rw[Vg];rfl
theorem AZ(n:Nat)(hn:n<=10)(f:Int->Int)(a b:Int)(a0:0<=a)(a1:a<n)(b0:0<=b)(b1:b<n):zg [lab n f,.int a,.int b]=some (.new (lab n (mgf f a b))):=by
 apply Xo;unfold zg
 (refine Dm.Xn ?_ rfl rfl;and_intros)
 refine Xr (Ym (fun i:Nat=>Dat.int (f i)) (TV n) (fun i:Nat=>mgf f a b i) Dat.int (d:=lab n f) ?_ rfl rfl rfl (by decide) (by rw[Uq];unfold SZ;lia) fun i _=>?_)
 ·rw[<- HG];rfl
 ·refine YW (Xq (V_ (U_ rfl (V_ (U_ rfl (U_ rfl (Xm ?_ rfl rfl (sL n f b b0 b1))))))));refine Yb (Xk ⟨fun g=>?_,fun g=>?_⟩) rfl rfl
  ·refine V_ (U_ rfl (U_ rfl (Xm (Xu ⟨?_,rfl⟩) rfl rfl (sL n f a a0 a1))));unfold mgf;rw[if_pos (of_decide_eq_true g)]
  ·refine U_ rfl (Xu ⟨?_,rfl⟩);unfold mgf;rw[if_neg (of_decide_eq_false g)]
theorem u_(xK:α->Dat)(d:α):∀(k:Nat) (l:List α),jQ k (l.map xK)=(TV l.length).map fun i=>.tup [.int ((k+i:Nat):Int),xK (l.getD i d)]
 |k,[]=>rfl
 |k,x::l=>by
  rw[PU,jQ,u_ xK d (k+1) l,Uy,List.range_succ_eq_map,PU,Vg]
  congr 1
  apply List.map_congr_left;intro i _;show _=Dat.tup [.int ((k+(i+1):Nat):Int),xK ((x::l).getD (i+1) d)];rw[show k+1+i=k+(i+1) by lia];rfl
theorem j6{n k:Nat}{p q:List Nat}(e:TV n=p++k::q):k=p.length/\k<n:=by
 have h1:(TV n)[p.length]?=some k:=by rw[e,Tt (Nat.le_refl _),VF];rfl
 have h2:p.length<n:=by
  have:(TV n).length=p.length+(q.length+1):=by rw[e];simp
  rw[Uq]at this;lia
 rw[U9 h2]at h1;injection h1 with h1
 lia
def DV(gs:List (Int->Int))(a b:Int)(i:Nat)(num:Int):Prop:=
 (num=0/\∀(j:Nat) f,j<i->gs[j]?=some f->f a=f b)\/∃(j:Nat) (f:Int->Int),j<i/\gs[j]?=some f/\f a≠f b/\(∀(j':Nat) f',j'<j->gs[j']?=some f'->f' a=f' b)/\num=(j:Int)+1
theorem DX(n:Nat)(gs:List (Int->Int))(a b:Int)(a0:0<=a)(a1:a<n)(b0:0<=b)(b1:b<n):∃num:Int,uX [.lst (gs.map (lab n)),.int a,.int b]=some (.val (.int num))/\DV gs a b gs.length num:=by
 suffices hh:Wr (uX [.lst (gs.map (lab n)),.int a,.int b]) fun v=>∃num:Int,v=.val (.int num)/\DV gs a b gs.length num by obtain⟨v,h1,num,rfl,h2⟩:=hh;exact⟨num,h1,h2⟩
 unfold uX
 (refine Dm.Xn ?_ rfl rfl;and_intros)
 refine Xi (XT (Zb (U_ rfl (Xu ⟨_,rfl,?_⟩))));rw[u_ (lab n) fun x=>x];refine XU (fun i:Nat=>Dat.tup [.int ((0+i:Nat):Int),lab n (gs.getD i fun x=>x)]) _ _ (TV gs.length) _ _ _ _ _ (fun p q ρ=>∃c3 c4:Cell,ρ=[.sh (.lst (gs.map (lab n))),.sh (.int a),.sh (.int b),c3,c4]/\∀(j:Nat) f,j<p.length->gs[j]?=some f->f a=f b) ⟨_,_,rfl,fun j f hj=>by simp at hj⟩ ?_ ?_
 ·rintro p i q ρ e ⟨c3,c4,rfl,low⟩;obtain⟨ip,il⟩:=j6 e;have hf:gs[i]?=some (gs.getD i fun x=>x):=by rw[UG,Tv il];rfl
  generalize (gs.getD i fun x=>x)=f at hf
  refine Dm.cV rfl (by trivial) ?_;unfold DB;refine Xy (Xq (V_ (V_ (U_ rfl (U_ rfl (Xm ?_ rfl rfl (sL n f a a0 a1)))))));refine V_ (U_ rfl (U_ rfl (Xm ?_ rfl rfl (sL n f b b0 b1))));refine XY (Xk ?_) rfl rfl;by_cases h:f a=f b
  ·refine XD (by simp[h]) (XH ⟨_,_,rfl,fun j g hj hg=>?_⟩);rw[Tz,VC]at hj;by_cases q:j=i
   ·subst q;rw[hf]at hg;cases hg;exact h
   ·exact low j g (by lia) hg
  ·refine YF (by simp[h]) (Xr (V_ (U_ rfl (W_ (XO ?_ rfl rfl)))));exact⟨_,rfl,.inr ⟨i,f,il,hf,h,fun j g hj=>low j g (by lia),by lia⟩⟩
 ·rintro ρ ⟨c3,c4,rfl,low⟩;rw[Uq]at low;exact Xr (W_ ⟨0,rfl,.inl ⟨rfl,low⟩⟩)
def Ends(n:Int)(r:List Tie):Prop:=∀t∈r,0<=t.a/\t.a<n/\0<=t.b/\t.b<n
def HH(k:Nat)(gs:List (Int->Int))(r:List Tie)(ms:List Int):Prop:=gs.length=k/\∀(j:Nat) f,gs[j]?=some f->Tells f (lay r ms ((j:Int)+1))
theorem map_set(n:Nat)(gs:List (Int->Int))(i:Nat)(f:Int->Int):(gs.map (lab n)).set i (lab n f)=(gs.set i f).map (lab n):=by rw[List.map_set]
def DY(o:Bool)(gs gs':List (Int->Int))(a b:Int)(i:Nat)(num:Int):Prop:=
 (num=0/\gs'=gs/\∀(j:Nat) f,j<i->gs[j]?=some f->f a=f b)\/∃(j:Nat) (f:Int->Int),j<i/\gs[j]?=some f/\f a≠f b/\(∀(j':Nat) f',j'<j->gs[j']?=some f'->f' a=f' b)/\num=(j:Int)+1/\gs'=gs.set j (mgf f (if o then a else b) (if o then b else a))
theorem DY.num{o:Bool}{gs gs':List (Int->Int)}(h:HH k gs r ms)(t:Tie){num:Int}(l:DY o gs gs' t.a t.b k num):qR k r ms t num/\HH k gs' (t::r) (num::ms):=by
 obtain⟨hl,ht⟩:=h;rcases l with⟨rfl,rfl,h2⟩ | ⟨j,f,jk,h1,h3,h4,rfl,rfl⟩
 ·refine⟨.inl ⟨rfl,fun j j1 j2=>?_⟩,hl,fun i g hg=>?_⟩
  ·have hj:(j-1).toNat<gs'.length:=by lia
   have:=(ht (j-1).toNat _ (Tv hj) t.a t.b).mp (h2 _ _ (by lia) (Tv hj));rw[show (((j-1).toNat:Nat):Int)+1=j by lia]at this;exact this
  ·rw[j5,if_neg (by lia)];exact ht i g hg
 ·have hj:j<gs.length:=(Tj.mp h1).1;refine⟨.inr ⟨by lia,by lia,fun c=>h3 ((ht j f h1 t.a t.b).mpr c),fun i i1 i2=>?_⟩,by rw[Ug];exact hl,fun i g hg=>?_⟩
  ·have hi:(i-1).toNat<gs.length:=by lia
   have:=(ht (i-1).toNat _ (Tv hi) t.a t.b).mp (h4 (i-1).toNat _ (by lia) (Tv hi));rw[show (((i-1).toNat:Nat):Int)+1=i by lia]at this;exact this
  ·rw[j5];by_cases q:j=i
   ·subst q;rw[TR hj]at hg;cases hg;rw[if_pos rfl];cases o
    ·exact tells_mgf (ht j f h1) t t.b t.a (.inr ⟨rfl,rfl⟩)
    ·exact tells_mgf (ht j f h1) t t.a t.b (.inl ⟨rfl,rfl⟩)
   ·rw[gc q]at hg;rw[if_neg (by lia)];exact ht i g hg
theorem QJ(n:Nat)(gs:List (Int->Int)){f:Int->Int}(h:gs[i]?=some f):gIx (.lst (gs.map (lab n))) (.int (0+(i:Nat)))=some (.val (lab n f)):=by
 have hi:=(Tj.mp h).1;rw[Int.zero_add];show (atI (gs.map (lab n)) i).map RV.val=_;rw[Dm.mq (lab n) gs (i:Nat) (by lia) (by lia)];have:gs[((i:Nat):Int).toNat]'(by lia)=f:=by
  have:=Tj.mp h
  simpa using this.2
 rw[this];rfl
theorem SH(k:Nat):HH k ((TV k).map fun _=>(fun x:Int=>x)) [] []:=⟨by simp,fun j f hf=>by
 rw[TM]at hf;cases h:(TV k)[j]? with
 |none=>rw[h]at hf;cases hf
 |some x=>rw[h]at hf;cases hf;exact tells_nil⟩
theorem fq(n k:Nat)(hn:n<=10)(hk1:1<=k)(hk6:k<=6)(r:List Tie)(hr:Ends n r)(hl:r.length<=1000):∃ms:List Int,qO [.int n,bh r,.int k]=some (.new (.lst (ms.map Dat.int)))/\bG k r ms:=by
 suffices hh:Wr (qO [.int (n:Nat),bh r,.int (k:Nat)]) fun v=>∃ms:List Int,v=.new (.lst (ms.map Dat.int))/\bG k r ms by obtain⟨v,h1,ms,rfl,h2⟩:=hh;exact⟨ms,h1,h2⟩
 unfold qO
 (refine Dm.Xn ?_ rfl rfl;and_intros)
 refine Xi (YU (Xp (m_ (U_ rfl (T_ (Xl (nG k (by lia) (by lia)) ?_ rfl rfl))))));refine Xi (Xs (Yl (fun i:Nat=>Dat.int (0+(i:Nat))) (TV k) (fun _=>(fun x:Int=>x)) (lab n) (ρ1:=[.sh (.int (n:Nat)),.sh (bh r),.sh (.int (k:Nat)),.un,.un,.un,.un,.un,.un]) ?_ ?_ rfl (by decide) (by rw[Uq];unfold SZ;lia) fun i _=>?_) (by decide))
 rotate_left
 ·apply YO;refine Yj (U_ rfl (d9.mk ⟨⟨?_,rfl⟩,by unfold BIG;lia,by unfold BIG;lia⟩));rw[Int.toNat_natCast];rfl
 ·refine Xz (m_ (U_ rfl (T_ (Y8 ?_ rfl (by lia)))));rw[Int.toNat_natCast,MW];exact X0 ⟨rfl,rfl⟩
 refine Xw ?_ (by trivial);refine Xi (Xs (XG (T_ (Xj ?_ rfl rfl (by decide)))) (by decide));refine Xw ?_ (by trivial);refine Xi (XT (Y4 (U_ rfl (Xu ⟨_,rfl,?_⟩))));rw[<- List.map_reverse];refine XU b_ _ _ r.reverse _ _ _ _ _ (fun p q ρ=>∃(gs:List (Int->Int)) (ms:List Int) (c5 c6 c7 c8:Cell),ρ=[.sh (.int (n:Nat)),.sh (bh r),.sh (.int (k:Nat)),.ow (.lst (gs.map (lab n))),.ow (.lst (ms.reverse.map Dat.int)),c5,c6,c7,c8]/\HH k gs p.reverse ms/\bG k p.reverse ms) ⟨(TV k).map fun _=>(fun x:Int=>x),[],.un,.un,.un,.un,rfl,SH k,trivial⟩ ?_ ?_
 ·rintro p t q ρ e ⟨gs,ms,c5,c6,c7,c8,rfl,I,A⟩;have ht:t∈r:=List.mem_reverse.mp (by rw[e];simp);obtain⟨t0,t1,t2,t3⟩:=hr t ht;have lp:ms.length<=1000:=by
   have a:=A.len;have:r.reverse.length=p.length+(q.length+1):=by rw[e];simp
   rw[UI]at a this
   lia
  obtain⟨num,en,ln⟩:=DX n gs t.a t.b t0 t1 t2 t3;rw[I.1]at ln;refine Dm.cV rfl (by trivial) ?_;unfold DC;refine Xi (Xs (Xp (m_ (XQ rfl (m_ (U_ rfl (m_ (U_ rfl (T_ (Xl en (XA ?_ (by trivial)) rfl rfl))))))))) (by decide));refine XR (fun ρ=>∃gs',ρ=[.sh (.int (n:Nat)),.sh (bh r),.sh (.int (k:Nat)),.ow (.lst (gs'.map (lab n))),.ow (.lst (ms.reverse.map Dat.int)),.sh (.int t.m),.sh (.int t.a),.sh (.int t.b),.sh (.int num)]/\DY true gs gs' t.a t.b k num) ?_ ?_
  ·refine Xy (Xq (V_ (U_ rfl (W_ (X7 (Xk ?_) rfl rfl)))));rcases ln with⟨rfl,low⟩ | ⟨j,f,jk,hf,ne,low,rfl⟩
   ·exact XD rfl (XH ⟨gs,rfl,.inl ⟨rfl,rfl,low⟩⟩)
   ·have gi:gIx (.lst (gs.map (lab n))) (.int ((j:Int)+1-1))=some (.val (lab n f)):=by
     have:=QJ n gs hf;rw[show (j:Int)+1-1=0+(j:Nat) by lia];exact this
    refine YF (decide_eq_true (by lia)) ?_;refine YL (Xp (m_ (V_ (XQ rfl (V_ (U_ rfl (W_ (X3 (Xm ?_ rfl rfl gi) rfl rfl))))))));refine m_ (U_ rfl (m_ (U_ rfl (T_ (XC (AZ n hn f t.a t.b t0 t1 t2 t3) ?_ rfl rfl rfl (by trivial))))));refine X0 ⟨⟨_,rfl⟩,V_ (U_ rfl (W_ (X3 (d9.mk ⟨gs.map (lab n),j,_,rfl,?_,rfl,?_⟩) rfl rfl)))⟩
    ·have hj:j<gs.length:=(Tj.mp hf).1;rw[Dp];unfold ixN;rw[if_pos (by lia),if_pos (by lia)]
     congr 1
     lia
    ·exact⟨gs.set j (mgf f t.a t.b),by rw[<- map_set];rfl,.inr ⟨j,f,jk,hf,ne,low,rfl,rfl⟩⟩
  ·rintro ρ ⟨gs',rfl,L⟩;obtain⟨h1,h2⟩:=L.num I t;refine Yi (U_ rfl (Xu (sI ?_ rfl (by trivial) (by rw[Dp,UI];unfold SZ;lia)))) rfl;refine⟨gs',num::ms,.sh (.int t.m),.sh (.int t.a),.sh (.int t.b),.sh (.int num),by rw[WJ,Uw];rfl,?_⟩;rw[Vr];exact⟨h2,A,h1⟩
 ·rintro ρ ⟨gs,ms,c5,c6,c7,c8,rfl,I,A⟩;rw[VI]at A;refine Xr (XJ (XQ rfl (XN (v:=.new (.lst (ms.map Dat.int))) ?_ rfl ?_)))
  ·exact⟨ms,rfl,A⟩
  ·unfold m7;dsimp only;rw[<- List.map_reverse,VI]
theorem Good.mem{n:Int}:∀{r:List Tie} {lo:Int},Good n lo r->∀t∈r,0<=t.a/\t.a<=t.b/\t.b<n
 |[],_,_,t,h=>by cases h
 |x::r,lo,g,t,h=>by
  rcases Tp.mp h with rfl | h
  ·exact⟨g.2.1,g.2.2.1,g.2.2.2.1⟩
  ·exact Good.mem g.2.2.2.2 t h
theorem filter_lt(p q:α->Bool):∀(l:List α),(∀x∈l,q x=true->p x=true)->(∃x∈l,p x=true/\q x=false)->(l.filter q).length+1<=(l.filter p).length
 |[],_,⟨x,h,_⟩=>by cases h
 |y::l,h,⟨x,hx,hp,hq⟩=>by
  have le:∀l:List α,(∀x∈l,q x=true->p x=true)->(l.filter q).length<=(l.filter p).length:=by
   intro l
   induction l with
   |nil=>intro _;simp
   |cons z l ih=>
    intro hh;have i2:=ih fun u hu=>hh u (Tq _ hu);have hz:=hh z To;rw[T7,T7];cases hqz:q z with
    |false=>cases p z<;>simp<;>lia
    |true=>rw[hz hqz];simp;lia
  have tl:∀u∈l,q u=true->p u=true:=fun u hu=>h u (Tq _ hu);rw[T7,T7];rcases Tp.mp hx with rfl | hx
  ·rw[hp,hq];have:=le l tl;simp;lia
  ·have ih:=filter_lt p q l tl ⟨x,hx,hp,hq⟩;cases hqy:q y with
   |false=>cases p y<;>simp<;>lia
   |true=>rw[h y To hqy];simp;lia
noncomputable def keep(r:List Tie)(ms:List Int):List Tie:=((r.zip ms).filter fun p=>decide (0<p.2)).map (·.1)
theorem eT(t:Tie)(m:Int)(r:List Tie)(ms:List Int):keep (t::r) (m::ms)=if 0<m then t::keep r ms else keep r ms:=by unfold keep;rw[UP,T7];by_cases h:0<m<;>simp[h]
noncomputable def zE(x:Tie×Int):Dat:=.tup [b_ x.1,.int x.2]
theorem zp:∀(r:List Tie) (ms:List Int),gG (r.map b_) (ms.map Dat.int)=(r.zip ms).map zE
 |[],_=>by simp[gG]
 |_::_,[]=>by simp[gG]
 |t::r,m::ms=>by rw[PU,PU,gG,zp r ms,UP,PU];rfl
theorem Za(r:List Tie)(ms:List Int)(p:Tie×Int->Bool){t:FT}(q:Q (.new (bh (((r.zip ms).filter p).map (·.1)))) ρ1)(JB:it ρ=some (gG (r.map b_) (ms.map Dat.int),ρ1))(hk:ρ1.length=k)(hk0:k≠0)(hl:r.length<=SZ)
  (ht:∀x:Tie×Int,Wt t (ρ1++[.sh (b_ x.1),.sh (.int x.2)]) fun c ρ'=>c=p x/\ρ'=ρ1++[.sh (b_ x.1),.sh (.int x.2)]):We (bO it 2 (bT [k,k+1]) t (eV k)) ρ Q:=by
 have b:∀(x:Tie×Int) (c1 c2:Cell),bT [k,k+1] (zE x) (ρ1++[c1,c2])=some (ρ1++[.sh (b_ x.1),.sh (.int x.2)]):=fun x c1 c2=>by show sets [k,k+1] [b_ x.1,.int x.2] _=_;rw[sets,if_neg hk0,sets,if_neg (by lia),sets];rw[Uo _ _ (by lia),Uo _ _ (by lia)];subst hk;rw[VF,show ρ1.length+1-ρ1.length=1 by lia];rfl
 refine YG zE (r.zip ms) p (fun x=>x.1) b_ (fun x=>(ρ1++[Cell.sh (b_ x.1),Cell.sh (.int x.2)]:Env)) (own:=2) (bd:=bT [k,k+1]) (Q:=Q) q (by rw[JB,zp]) (fun x=>b x .un .un) (fun x y=>b x (.sh (b_ y.1)) (.sh (.int y.2))) (fun x=>VG) (by rw[List.length_zip];lia) (fun x _=>ht x) (fun x _ _=>?_);refine U_ (d:=b_ x.1) ?_ (Xu ⟨rfl,rfl⟩);rw[Tt (by lia),hk,VF];rfl
theorem YR{d:Dat}{Q:RV->Prop}(hk:okD 8 d=true)(he:eqD d d=true)(k:Q (.val (.bl false)))(ho:o=some d)(hp:p=some d):Wg2 gNe o p Q:=
 ⟨_,_,_,ho,hp,by unfold gNe;rw[hk,he];rfl,k⟩
noncomputable def iz(n k:Nat)(r:List Tie):Dat:=.tup [.int (n:Nat),.int (k:Nat),bh r]
theorem A0(r:List Tie)(ms:List Int)(q:Q (.new (bh (keep r ms))) ρ1)(JB:it ρ=some (gG (r.map b_) (ms.map Dat.int),ρ1))(hk:ρ1.length=k)(hk0:k≠0)(hl:r.length<=SZ):We (bO it 2 (bT [k,k+1]) (tV (e2 gGt (eV (k+1)) (eC (.int 0)))) (eV k)) ρ Q:=by refine Za r ms (fun p=>decide (0<p.2)) q JB hk hk0 hl fun x=>?_;refine Xq (V_ (U_ (d:=.int x.2) ?_ (W_ (X7 (Xk ⟨rfl,rfl⟩) rfl rfl))));rw[Tt (by lia),hk];simp
theorem MX(n k:Nat)(hn:n<=10)(hk1:1<=k)(hk6:k<=6)(r:List Tie)(ms:List Int)(hr:Ends n r)(hl:r.length<=1000)(ha:bG k r ms):zh [.int (n:Nat),bh r,.int (k:Nat)]=some (.val (iz n k (keep r ms))):=by
 obtain⟨ms',el,al⟩:=fq n k hn hk1 hk6 r hr hl;rw[al.uniq ha]at el;apply Xo;unfold zh
 (refine Dm.Xn ?_ rfl rfl;and_intros)
 refine Xi (Xs (Xp (m_ (U_ rfl (m_ (U_ rfl (m_ (U_ rfl (T_ (XC el ?_ rfl rfl rfl rfl)))))))) ) (by decide));refine Xw ?_ (by trivial);refine Xr (Xx (m_ (U_ rfl (m_ (U_ rfl (m_ (A0 (ρ1:=[.sh (.int (n:Nat)),.sh (bh r),.sh (.int (k:Nat)),.sh (.lst (ms.map Dat.int))]) r ms (k:=4) ?_ ?_ rfl (by decide) (Nat.le_trans hl (by decide)))))))))
 ·exact T_ (Xj rfl rfl rfl (Ut rfl))
 ·rfl
theorem A3{a b:Int}(S:Int->Int)(c:Con ts a b)(h:S a≠S b):∃t∈ts,S t.a≠S t.b:=by
 apply Classical.byContradiction;intro hc;have all:∀t∈ts,S t.a=S t.b:=fun t ht=>Classical.byContradiction fun z=>hc ⟨t,ht,z⟩;have key:∀{x y:Int},Con ts x y->S x=S y:=fun c=>by
  induction c with
  |refl x=>rfl
  |tie t m=>exact all t m
  |symm _ ih=>exact ih.symm
  |trans _ _ i1 i2=>exact i1.trans i2
 exact h (key c)
theorem vc:∀(k:Nat) (l:List (Tie×Int)),(∀j:Int,1<=j->j<=k->∃p∈l,p.2=j)->k<=l.length
 |0,l,_=>T8 _
 |k+1,l,h=>by
  obtain⟨p,hp,ep⟩:=h ((k+1:Nat):Int) (by lia) (by lia);have ih:=vc k (l.filter fun p=>decide (p.2≠((k+1:Nat):Int))) fun j j1 j2=>by obtain⟨q,hq,eq⟩:=h j j1 (by lia);exact⟨q,UJ.mpr ⟨hq,decide_eq_true (by lia)⟩,eq⟩
  have:=filter_lt (fun _=>true) (fun p:Tie×Int=>decide (p.2≠((k+1:Nat):Int))) l (fun _ _ _=>rfl) ⟨p,hp,rfl,by simp[ep]⟩;have:=UL (fun _:Tie×Int=>true) l
  lia
noncomputable def gT(S:Int->Int)(t:Int)(r:List Tie):List Tie:=r.filter fun x=>decide (t<=x.m)&&decide (S x.a≠S x.b)
theorem HJ{j:Int}{t:Tie}(h:t∈lay r ms j):(t,j)∈r.zip ms:=by unfold lay at h;obtain⟨q,hq,rfl⟩:=U0.mp h;obtain⟨h1,h2⟩:=UJ.mp hq;have:q.2=j:=of_decide_eq_true h2;rw[<- this];exact h1
theorem qS(k:Nat)(n:Int)(S:Int->Int)(t0:Int):∀(r:List Tie) (ms:List Int) (lo:Int),Good n lo r->bG k r ms->gT S t0 (keep r ms)=gT S t0 r\/k<=(gT S t0 (keep r ms)).length
 |[],[],_,_,_=>.inl rfl
 |t::r,m::ms,lo,hg,ha=>by
  obtain⟨g1,g2,g3,g4,g5⟩:=hg;rcases qS k n S t0 r ms (t.m+1) g5 ha.1 with ih | ih
  ·rw[eT];by_cases h0:0<m
   ·rw[if_pos h0];left;unfold gT at ih ⊢;rw[T7,T7,ih]
   ·rw[if_neg h0];by_cases hc:(decide (t0<=t.m)&&decide (S t.a≠S t.b))=true
    ·right;rw[TN,decide_eq_true_eq,decide_eq_true_eq]at hc;have hm:∀j:Int,1<=j->j<=k->Con (lay r ms j) t.a t.b:=by
      rcases ha.2 with⟨_,h⟩ | ⟨h1,_⟩
      ·exact h
      ·lia
     have e:gT S t0 (keep r ms)=((r.zip ms).filter fun p=>decide (0<p.2)&&(decide (t0<=p.1.m)&&decide (S p.1.a≠S p.1.b))).map (·.1):=by
      unfold gT keep;rw[W0,Vy]
      congr 2
      funext p
      simp[Xc]
     rw[e,Dp];refine vc k _ fun j j1 j2=>?_;obtain⟨u,hu,hs⟩:=A3 S (hm j j1 j2) hc.2;have hz:=HJ hu;have hur:u∈r:=(Vh hz).1;have:=Good.lo g5 u hur;refine⟨(u,j),UJ.mpr ⟨hz,?_⟩,rfl⟩;simp only[TN,decide_eq_true_eq];exact⟨by lia,by lia,hs⟩
    ·left;have hf:(decide (t0<=t.m)&&decide (S t.a≠S t.b))=false:=by cases hq:(decide (t0<=t.m)&&decide (S t.a≠S t.b)) with | false=>rfl | true=>exact absurd hq hc
     unfold gT at ih ⊢;rw[T7,hf,ih];simp
  ·right;rw[eT];by_cases h0:0<m
   ·rw[if_pos h0];unfold gT at ih ⊢;rw[T7];split
    ·rw[Uy];lia
    ·exact ih
   ·rw[if_neg h0];exact ih
 |[],_::_,_,_,h=>h.elim
 |_::_,[],_,_,h=>h.elim
theorem vd:∀(r:List Tie) (ms:List Int) (j:Int),1<=j->lay (keep r ms) (ms.filter fun m=>decide (0<m)) j=lay r ms j\/r.length≠ms.length
 |[],[],_,_=>.inl rfl
 |[],_::_,_,_=>.inr (by simp)
 |_::_,[],_,_=>.inr (by simp)
 |t::r,m::ms,j,hj=>by
  rcases vd r ms j hj with ih | ih
  ·left;rw[eT,j5];by_cases h:0<m
   ·rw[if_pos h,U8 (by simpa using h),j5,ih]
   ·rw[if_neg h,U7 (by simpa using h),ih,if_neg (by lia)]
  ·right
   simpa using ih
theorem ve{k:Int}:∀{r:List Tie} {ms:List Int},bG k r ms->bG k (keep r ms) (ms.filter fun m=>decide (0<m))
 |[],[],_=>trivial
 |t::r,m::ms,h=>by
  have ih:=ve h.1;rw[eT];by_cases q:0<m
  ·rw[if_pos q,U8 (by simpa using q)];refine⟨ih,?_⟩;have e:∀j,1<=j->lay (keep r ms) (ms.filter fun m=>decide (0<m)) j=lay r ms j:=fun j hj=>by
    rcases vd r ms j hj with z | z
    ·exact z
    ·exact absurd h.1.len.symm z
   rcases h.2 with⟨h0,_⟩ | ⟨h1,h2,h3,h4⟩
   ·lia
   ·exact .inr ⟨h1,h2,by rw[e m h1];exact h3,fun j j1 j2=>by rw[e j j1];exact h4 j j1 j2⟩
  ·rw[if_neg q,U7 (by simpa using q)];exact ih
 |[],_::_,h=>h.elim
 |_::_,[],h=>h.elim
theorem j7:∀(r:List Tie) (ms:List Int),(keep r ms).Sublist r
 |[],ms=>by unfold keep;simp
 |_::_,[]=>by unfold keep;simp
 |t::r,m::ms=>by
  rw[eT];split
  ·exact(j7 r ms).cons_cons t
  ·exact(j7 r ms).cons t
theorem nI(n i:Int)(h0:0<=i)(h1:i<n):gS [.int n,.int i]=some (.val (.bl true)):=by
 apply Xo;unfold gS
 (refine Dm.Xn ?_ rfl rfl;and_intros)
 refine Xr (Xp (m_ (U_ rfl (m_ (W_ (m_ (V_ (U_ rfl (W_ (X3 ?_ rfl rfl))))))))));exact T_ (Xl (eS i 0 (n-1) h0 (by lia)) rfl rfl rfl)
theorem qT(m:Int)(h0:0<=m)(h1:m<=Z30):lI [.int m]=some (.val (.bl true)):=by
 apply Xo;unfold lI
 (refine Dm.Xn ?_ rfl rfl;and_intros)
 refine Xr (Xp (m_ (U_ rfl (m_ (W_ (m_ (V_ (W_ (W_ (X4 (z:=Z30) ?_ rfl rfl (by decide) (by decide)))))))))));exact T_ (Xl (eS m 0 Z30 h0 h1) rfl rfl rfl)
theorem A4(n:Int)(t:Tie)(m0:0<=t.m)(m1:t.m<=Z30)(a0:0<=t.a)(a1:t.a<n)(b0:0<=t.b)(b1:t.b<n):j4 [.int n,b_ t]=some (.val (.bl true)):=by
 apply Xo;unfold j4 b_
 (refine Dm.Xn ?_ rfl rfl;and_intros)
 repeat array_get_dec
 refine XD rfl ?_
 repeat array_get_dec
 refine XD rfl ?_
 repeat array_get_dec
 refine Xl (qT t.m m0 m1) ?_ rfl rfl
 repeat array_get_dec
 refine Xl (nI n t.a a0 a1) ?_ rfl rfl
 repeat array_get_dec
 refine Xl (nI n t.b b0 b1) ?_ rfl rfl
 repeat array_get_dec
 rfl
theorem A5(n:Int)(t:Tie)(m0:0<=t.m)(m1:t.m<=Z30)(a0:0<=t.a)(ab:t.a<=t.b)(b1:t.b<n):nD [.int n,b_ t]=some (.val (.bl true)):=by
 apply Xo;unfold nD
 (refine Dm.Xn ?_ rfl rfl;and_intros)
 repeat array_get_dec
 refine Xl (A4 n t m0 m1 a0 (by lia) (by lia) b1) ?_ rfl rfl
 repeat array_get_dec
 exact congrArg (fun b=>RV.val (Dat.bl b)) (decide_eq_true ab)
noncomputable abbrev HK(D:List Tie):Prop:=D.Pairwise fun t u=>t.m<u.m
theorem sM(n:Nat):ups 1 n=(TV n).map fun i:Nat=>Dat.int (1+(i:Int)):=rfl
theorem fu(n:Int)(h1:1<=n)(h2:n<=10):xN [.int n]=some (.val (.bl true)):=by
 apply Xo;unfold xN
 (refine Dm.Xn ?_ rfl rfl;and_intros)
 repeat array_get_dec
 refine Xl (eS n 1 10 h1 h2) ?_ rfl rfl
 repeat array_get_dec
 rfl
theorem fy(n:Int)(h1:1<=n)(h2:n<=6):f_ [.int n]=some (.val (.bl true)):=by
 apply Xo;unfold f_
 (refine Dm.Xn ?_ rfl rfl;and_intros)
 repeat array_get_dec
 refine Xl (eS n 1 6 h1 h2) ?_ rfl rfl
 repeat array_get_dec
 rfl
theorem A6(D:List Tie)(h:HK D)(hl:D.length<=75):uW [.lst ((D.map (·.m)).map Dat.int)]=some (.val (.bl true)):=by
 have sz:1000<=SZ:=by decide
 apply Xo;unfold uW
 (refine Dm.Xn ?_ rfl rfl;and_intros)
 refine Xr (Xz (m_ ?_));have JB:iR2 (eC (.int 1)) (eB cH [eV 0]) [.sh (.lst ((D.map (·.m)).map Dat.int))]=some ((TV ((D.length:Int)-1).toNat).map (fun i:Nat=>Dat.int (1+(i:Int))),[.sh (.lst ((D.map (·.m)).map Dat.int))]):=by
  refine YO ?_
  repeat array_get_dec
  refine⟨⟨?_,rfl⟩,?_⟩
  ·rw[sM,Dp]
  ·rw[Dp];unfold BIG;lia
 refine Yl (fun i:Nat=>Dat.int (1+(i:Int))) (TV ((D.length:Int)-1).toNat) (fun _=>true) Dat.bl ?_ JB rfl (by decide) (by simp;lia) (fun i hi=>?_)
 ·refine T_ (Yv (fun b=>b) (xs:=(TV ((D.length:Int)-1).toNat).map fun _=>true) ?_ rfl);exact Yx (congrArg (fun b=>RV.val (Dat.bl b)) (by simp))
 ·have hi':=VQ.mp hi
  repeat array_get_dec
  refine Yy (xK:=Dat.int) (xs:=D.map (·.m)) (i:=1+(i:Int)-1) (by lia) (by rw[Dp];lia) ?_ rfl rfl
  repeat array_get_dec
  refine Yy (xK:=Dat.int) (xs:=D.map (·.m)) (i:=1+(i:Int)) (by lia) (by rw[Dp];lia) ?_ rfl rfl
  repeat array_get_dec
  have lt:=VL.mp h (1+(i:Int)-1).toNat (1+(i:Int)).toNat (by lia) (by lia) (by lia);refine⟨congrArg Dat.bl (decide_eq_true ?_),rfl⟩;rw[List.getElem_map,List.getElem_map];exact lt
structure Rcd(n:Nat)(r:List Tie):Prop where
 ok:∀t∈r,0<=t.m/\t.m<=Z30/\0<=t.a/\t.a<=t.b/\t.b<n
 up:HK r
 len:r.length<=60
theorem Rcd.sub{r q:List Tie}(h:Rcd n r)(s:q.Sublist r):Rcd n q:=⟨fun t ht=>h.ok t (s.subset ht),h.up.sublist s,Nat.le_trans s.length_le h.len⟩
theorem Rcd.ends(h:Rcd n r):Ends n r:=fun t ht=>by obtain⟨h1,h2,h3,h4,h5⟩:=h.ok t ht;exact⟨h3,by lia,by lia,h5⟩
theorem Rcd.good(h:Rcd n r):Good n 0 r:=by
 have go:∀(r:List Tie) (lo:Int),(∀t∈r,0<=t.a/\t.a<=t.b/\t.b<(n:Nat))->(∀t∈r,lo<=t.m)->HK r->Good n lo r:=fun r=>by
  induction r with
  |nil=>intro lo _ _ _;trivial
  |cons t r ih=>intro lo h1 h2 h3;obtain⟨p1,p2⟩:=Ux.mp h3;obtain⟨q1,q2,q3⟩:=h1 t To;exact⟨h2 t To,q1,q2,q3,ih (t.m+1) (fun u hu=>h1 u (Tq _ hu)) (fun u hu=>by have:=p1 u hu;lia) p2⟩
 exact go r 0 (fun t ht=>(h.ok t ht).2.2) (fun t ht=>(h.ok t ht).1) h.up
theorem j8(n:Nat)(n1:1<=n)(n10:n<=10)(r:List Tie)(h:Rcd n r):gb [.int (n:Nat),bh r]=some (.val (.bl true)):=by
 have sz:1000<=SZ:=by decide
 have hl:=h.len;apply Xo;unfold gb
 (refine Dm.Xn ?_ rfl rfl;and_intros)
 repeat array_get_dec
 refine Xl (fu n (by lia) (by lia)) ?_ rfl rfl
 repeat array_get_dec
 refine XD rfl ?_
 repeat array_get_dec
 refine XD rfl ?_
 repeat array_get_dec
 refine XD (decide_eq_false (by rw[Dp];lia)) ?_
 repeat array_get_dec
 refine Ym b_ r (fun _=>true) Dat.bl ?_ rfl rfl rfl (by decide) (by lia) (fun t ht=>?_)
 rotate_left
 ·obtain⟨h1,h2,h3,h4,h5⟩:=h.ok t ht
  repeat array_get_dec
  refine Xl (A5 n t h1 h2 h3 h4 h5) ?_ rfl rfl
  repeat array_get_dec
  exact⟨rfl,rfl⟩
 repeat array_get_dec
 refine Yv (fun b=>b) (xs:=r.map fun _=>true) ?_ rfl
 repeat array_get_dec
 refine XD (by simp) ?_
 repeat array_get_dec
 refine Ym b_ r (·.m) Dat.int ?_ rfl rfl rfl (by decide) (by lia) (fun t ht=>?_)
 rotate_left
 ·repeat array_get_dec
  exact⟨rfl,rfl⟩
 repeat array_get_dec
 refine Xl (A6 r h.up (by lia)) ?_ rfl rfl
 repeat array_get_dec
 rfl
structure Net(n k:Nat)(N:List Tie):Prop where
 rc:Rcd n N
 num:∃ms,bG k N ms/\(0:Int)∉ms
theorem A7(n k:Nat)(n1:1<=n)(n10:n<=10)(k1:1<=k)(k6:k<=6)(N:List Tie)(h:Net n k N):bx [iz n k N]=some (.val (.bl true)):=by
 have hl:=h.rc.len;obtain⟨ms,el,al⟩:=fq n k n10 k1 k6 N h.rc.ends (by lia);obtain⟨ms',al',h0⟩:=h.num;rw[al'.uniq al]at h0;apply Xo;unfold bx iz
 (refine Dm.Xn ?_ rfl rfl;and_intros)
 repeat array_get_dec
 refine XD rfl ?_
 repeat array_get_dec
 refine XD rfl ?_
 repeat array_get_dec
 refine Xl (fy k (by lia) (by lia)) ?_ rfl rfl
 repeat array_get_dec
 refine XD rfl ?_
 repeat array_get_dec
 refine Xl (j8 n n1 n10 N h.rc) ?_ rfl rfl
 repeat array_get_dec
 refine XD rfl ?_
 repeat array_get_dec
 refine XC el ?_ rfl rfl rfl (by trivial)
 repeat array_get_dec
 refine YQ (xs:=ms) ?_ rfl rfl
 repeat array_get_dec
 exact congrArg (fun b=>RV.val (Dat.bl b)) (by simp[h0])
theorem Rcd.of(g:Good n 0 r)(hl:r.length<=60)(hm:∀t∈r,t.m<=Z30):Rcd n r:=⟨fun t ht=>by
  obtain⟨q1,q2,q3⟩:=Good.mem g t ht;exact⟨Good.lo g t ht,hm t ht,q1,q2,q3⟩,by
  have up:∀(r:List Tie) (lo:Int),Good n lo r->HK r:=fun r=>by
   induction r with
   |nil=>intro _ _;exact List.Pairwise.nil
   |cons t r ih=>intro lo g;exact Ux.mpr ⟨fun u hu=>by have:=Good.lo g.2.2.2.2 u hu;lia,ih _ g.2.2.2.2⟩
  exact up r 0 g,hl⟩
noncomputable def bX(r:List Tie)(t:Int):List Tie:=r.filter fun x=>decide (t<=x.m)
theorem vf(r:List Tie)(hl:r.length<=1000)(t:Int):lJ [bh r,.int t]=some (.new (bh (bX r t))):=by
 apply Xo;unfold lJ
 (refine Dm.Xn ?_ rfl rfl;and_intros)
 refine Xr ?_;refine YK b_ r (fun x=>decide (t<=x.m)) id b_ (d:=bh r) ?_ rfl rfl rfl (by decide) (by unfold SZ;lia) (fun u _=>?_) fun u _ _=>?_
 ·rw[V2];rfl
 ·exact Xq (V_ (V_ (U_ rfl (W_ (Xm (U_ rfl (Ys (Xk ⟨rfl,rfl⟩) rfl rfl)) rfl rfl rfl)))))
 ·exact U_ rfl (Xu ⟨rfl,rfl⟩)
theorem zq(r:List Tie)(t:Int):(bX r t).length<=r.length:=UL _ _
theorem vg(n k:Nat)(n1:1<=n)(n10:n<=10)(k1:1<=k)(k6:k<=6)(N:List Tie)(h:Net n k N):qP [iz n k N]=some (.val .non):=by
 apply Xo;unfold qP
 (refine Dm.Xn ?_ rfl rfl;and_intros)
 exact Xy (Xv (Xq (Xp (m_ (U_ rfl (T_ (Xl (A7 n k n1 n10 k1 k6 N h) (Xk (XF (XH rfl))) rfl rfl)))))))
theorem dB(i lo hi:Int)(h:¬(lo<=i/\i<=hi)):kR [.int i,.int lo,.int hi]=some (.val (.bl false)):=by
 apply Xo;unfold kR
 (refine Dm.Xn ?_ rfl rfl;and_intros)
 refine Xr (XZ (Xp (m_ (U_ rfl (T_ (Xl (u9 i) (Xk (XI ?_)) rfl rfl))))));have e1:gLe (.int lo) (.int i)=some (.val (.bl (decide (lo<=i)))):=rfl;have e2:gLe (.int i) (.int hi)=some (.val (.bl (decide (i<=hi)))):=rfl;have e:g9 gLe gLe (eV 1) (eV 0) (eV 2) [.sh (.int i),.sh (.int lo),.sh (.int hi)]=some (.val (.bl false),[.sh (.int i),.sh (.int lo),.sh (.int hi)]):=by
  unfold g9;simp only[eV,List.getElem?_cons_zero,Vv,pk,e1,e2,RV.bH];by_cases q:lo<=i
  ·rw[decide_eq_true q,decide_eq_false fun z=>h ⟨q,z⟩]
  ·rw[decide_eq_false q]
 exact⟨_,_,e,rfl⟩
theorem D0(n i:Int)(h:¬(0<=i/\i<n)):gS [.int n,.int i]=some (.val (.bl false)):=by
 apply Xo;unfold gS
 (refine Dm.Xn ?_ rfl rfl;and_intros)
 refine Xr (Xp (m_ (U_ rfl (m_ (W_ (m_ (V_ (U_ rfl (W_ (X3 ?_ rfl rfl))))))))));exact T_ (Xl (dB i 0 (n-1) (by lia)) rfl rfl rfl)
theorem j9(d:Dat)(h:mR isT d=some (.val (.bl false))):bx [d]=some (.val (.bl false)):=by
 apply Xo;unfold bx
 (refine Dm.Xn ?_ rfl rfl;and_intros)
 refine Xi (Xy (XM (Xv (Xq (XJ (U_ rfl (XN (v:=.val (.bl false)) (Xk (XI (XI ?_))) rfl h)))))));exact Xr (W_ rfl)
theorem sN(ds:List Dat)(h:ds.length≠3)(hl:ds.length<100):bx [.tup ds]=some (.val (.bl false)):=by
 apply Xo;unfold bx
 (refine Dm.Xn ?_ rfl rfl;and_intros)
 refine Xi (Xy (XM (Xv (Xq (XJ (U_ rfl (XN (v:=.val (.bl true)) (Xk (XF ?_)) rfl rfl)))))));refine Xq (V_ (Xz (m_ (U_ rfl (T_ (X6 ?_ rfl))))));refine W_ (XY (Xk ?_) rfl rfl);rw[decide_eq_false (by lia)];exact XI (Xr (W_ rfl))
theorem sO(a b c:Dat)(h:f_ [b]=some (.val (.bl false))):bx [.tup [a,b,c]]=some (.val (.bl false)):=by
 apply Xo;unfold bx
 (refine Dm.Xn ?_ rfl rfl;and_intros)
 refine Xi (Xy (XM (Xv (Xq (XJ (U_ rfl (XN (v:=.val (.bl true)) (Xk (XF ?_)) rfl rfl)))))));refine Xq (V_ (Xz (m_ (U_ rfl (T_ (X6 ?_ rfl))))));refine W_ (XY (Xk ?_) rfl rfl);refine XD rfl (XH ?_);refine Xi (Xy (XM (Xv (Xq (Xp (m_ (V_ (U_ rfl (W_ (Xm (v:=b) ?_ rfl rfl rfl))))))))));refine T_ (Xl h (Xk (XI (XI ?_))) rfl rfl);exact Xr (W_ rfl)
theorem dU(a b c:Dat)(hb:f_ [b]=some (.val (.bl true)))(h:gb [a,c]=some (.val (.bl false))):bx [.tup [a,b,c]]=some (.val (.bl false)):=by
 apply Xo;unfold bx
 (refine Dm.Xn ?_ rfl rfl;and_intros)
 refine Xi (Xy (XM (Xv (Xq (XJ (U_ rfl (XN (v:=.val (.bl true)) (Xk (XF ?_)) rfl rfl)))))));refine Xq (V_ (Xz (m_ (U_ rfl (T_ (X6 ?_ rfl))))));refine W_ (XY (Xk ?_) rfl rfl);refine XD rfl (XH ?_);refine Xi (Xy (XM (Xv (Xq (Xp (m_ (V_ (U_ rfl (W_ (Xm (v:=b) ?_ rfl rfl rfl))))))))));refine T_ (Xl hb (Xk (XF ?_)) rfl rfl);refine Xv (Xq (Xp (m_ (V_ (U_ rfl (W_ (Xm (v:=a) ?_ rfl rfl rfl)))))));refine m_ (V_ (U_ rfl (W_ (Xm (v:=c) ?_ rfl rfl rfl))));refine T_ (Xl h (Xk (XI ?_)) rfl rfl);exact Xr (W_ rfl)
theorem iA(a c:Dat)(h:xN [a]=some (.val (.bl false))):gb [a,c]=some (.val (.bl false)):=by
 apply Xo;unfold gb
 (refine Dm.Xn ?_ rfl rfl;and_intros)
 refine Xi (Xy (XM (Xv (Xq (Xp (m_ (U_ rfl (T_ (Xl h (Xk (XI (XI ?_))) rfl rfl)))))))));exact Xr (W_ rfl)
theorem vh(n:Nat)(n1:1<=n)(n10:n<=10)(c:Dat)(h:mR isL c=some (.val (.bl false))):gb [.int n,c]=some (.val (.bl false)):=by
 apply Xo;unfold gb
 (refine Dm.Xn ?_ rfl rfl;and_intros)
 refine Xi (Xy (XM (Xv (Xq (Xp (m_ (U_ rfl (T_ (Xl (fu n (by lia) (by lia)) (Xk (XF ?_)) rfl rfl)))))))));refine XM (Xv (Xq (XJ (U_ rfl (XN (v:=.val (.bl false)) (Xk (XI (XI ?_))) rfl h)))));exact Xr (W_ rfl)
theorem sP(n:Nat)(n1:1<=n)(n10:n<=10)(t:Dat)(h:nD [.int n,t]=some (.val (.bl false))):gb [.int n,.lst [t]]=some (.val (.bl false)):=by
 apply Xo;unfold gb
 (refine Dm.Xn ?_ rfl rfl;and_intros)
 refine Xi (Xy (XM (Xv (Xq (Xp (m_ (U_ rfl (T_ (Xl (fu n (by lia) (by lia)) (Xk (XF ?_)) rfl rfl)))))))));refine XM (Xv (Xq (XJ (U_ rfl (XN (v:=.val (.bl true)) (Xk (XF ?_)) rfl rfl)))));refine Xq (V_ (Xz (m_ (U_ rfl (T_ (Yu ?_ rfl))))));refine W_ (X7 (Xk (XD rfl ?_)) rfl rfl);refine XH (Xi (Xy (Xv (Xq (Xz (m_ ?_))))));refine Ym id [t] (fun _=>false) Dat.bl ?_ rfl rfl rfl (by decide) (by exact Ut rfl) fun u hu=>?_
 ·refine T_ (Yv (fun _=>false) (xs:=[t]) ?_ rfl);exact Xk (XI (Xr (W_ rfl)))
 ·rw[TJ.mp hu];exact Xp (m_ (U_ rfl (m_ (U_ rfl (T_ (Xl h (Xu ⟨rfl,rfl⟩) rfl rfl))))))
theorem zu(n k:Nat)(n1:1<=n)(n10:n<=10)(k1:1<=k)(k6:k<=6)(r:List Tie)(hr:Rcd n r)(h:∀ms,bG k r ms->(0:Int)∈ms):bx [iz n k r]=some (.val (.bl false)):=by
 have hl:=hr.len;obtain⟨ms,el,al⟩:=fq n k n10 k1 k6 r hr.ends (by lia);apply Xo;unfold bx iz
 (refine Dm.Xn ?_ rfl rfl;and_intros)
 refine Xi (Xy (XM (Xv (Xq (XJ (U_ rfl (XN (v:=.val (.bl true)) (Xk (XF ?_)) rfl rfl)))))));refine Xq (V_ (Xz (m_ (U_ rfl (T_ (X6 ?_ rfl))))));refine W_ (XY (Xk ?_) rfl rfl);refine XD rfl (XH ?_);refine Xi (Xy (XM (Xv (Xq (Xp (m_ (V_ (U_ rfl (W_ (Xm ?_ rfl rfl rfl))))))))));refine T_ (Xl (fy k (by lia) (by lia)) (Xk (XF ?_)) rfl rfl);refine Xv (Xq (Xp (m_ (V_ (U_ rfl (W_ (Xm ?_ rfl rfl rfl)))))));refine m_ (V_ (U_ rfl (W_ (Xm ?_ rfl rfl rfl))));refine T_ (Xl (j8 n n1 n10 r hr) (Xk (XF ?_)) rfl rfl);refine XH (Xr (V_ (W_ (Xp (m_ (V_ (U_ rfl (W_ (Xm ?_ rfl rfl rfl)))))))));refine m_ (V_ (U_ rfl (W_ (Xm ?_ rfl rfl rfl))));refine m_ (V_ (U_ rfl (W_ (Xm ?_ rfl rfl rfl))));refine T_ (XC el ?_ rfl rfl rfl rfl);refine YQ (xs:=ms) ?_ rfl rfl;rw[decide_eq_true (h ms al)];rfl
theorem qU(k1:1<=k){t:Tie}(h:t.a=t.b)(al:bG k (t::r) ms):(0:Int)∈ms:=by
 cases ms with
 |nil=>cases al
 |cons m ms=>
  have h1:qR k r ms t m:=al.2;rcases h1 with⟨e,_⟩ | ⟨_,_,nc,_⟩
  ·rw[e];exact To
  ·rw[h]at nc;exact absurd (Con.refl _) nc
theorem kT(d:Dat)(h:kR [d,.int 1,.int 6]=some (.val (.bl false))):f_ [d]=some (.val (.bl false)):=by
 apply Xo;unfold f_
 (refine Dm.Xn ?_ rfl rfl;and_intros)
 exact Xr (Xp (m_ (U_ rfl (m_ (W_ (m_ (W_ (T_ (Xl h rfl rfl rfl)))))))))
theorem kU(d:Dat)(h:kR [d,.int 1,.int 10]=some (.val (.bl false))):xN [d]=some (.val (.bl false)):=by
 apply Xo;unfold xN
 (refine Dm.Xn ?_ rfl rfl;and_intros)
 exact Xr (Xp (m_ (U_ rfl (m_ (W_ (m_ (W_ (T_ (Xl h rfl rfl rfl)))))))))
theorem j_(d:Dat)(lo hi:Int)(h:Dz [d]=some (.val (.bl false))):kR [d,.int lo,.int hi]=some (.val (.bl false)):=by
 apply Xo;unfold kR
 (refine Dm.Xn ?_ rfl rfl;and_intros)
 exact Xr (XZ (Xp (m_ (U_ rfl (T_ (Xl h (Xk (XF rfl)) rfl rfl))))))
noncomputable def A8(n k:Nat)(K:List Tie):List Dat:=
 [.non,.lst [],.tup [],.lst [.int n,.int k,bh K],.tup [.int n,.int k],.tup [.int n,.int k,bh K,.int 0],.tup [.bl true,.int k,.lst []],.tup [.int n,.bl true,.lst []],.tup [.int 0,.int k,.lst []],.tup [.int n,.int 0,.lst []]] ++
 [.tup [.int 11,.int k,.lst []],.tup [.int n,.int 7,.lst []],.tup [.int n,.int k,.non],.tup [.int n,.int k,.tup (K.map b_++[.int 0])],.tup [.int n,.int k,.lst [.tup [.int 0,.int 0,.int 0]]],.str [110,101,116]] ++
 [.tup [.int n,.int k,.lst [.tup [.int 3,.int 0,.int n]]],.tup [.int n,.int k,.lst [.tup [.int (0-1),.int 0,.int 0]]],.tup [.int n,.int k,.lst [.lst [.int 1,.int 0,.int 0]]],.tup [.int n,.int 1,.lst [.tup [.int 1,.int 0,.int 0],.tup [.int 2,.int 0,.int 0]]]]
theorem SJ(n:Nat)(n1:1<=n):Rcd n [⟨0,0,0⟩]:=⟨fun t ht=>by rw[TJ.mp ht];exact⟨by decide,by decide,by decide,by decide,by show (0:Int)<n;lia⟩,by simp,by decide⟩
theorem SK(n:Nat)(n1:1<=n):Rcd n [⟨1,0,0⟩,⟨2,0,0⟩]:=⟨fun t ht=>by
  rcases Tp.mp ht with rfl | ht
  ·exact⟨by decide,by decide,by decide,by decide,by show (0:Int)<n;lia⟩
  ·rw[TJ.mp ht];exact⟨by decide,by decide,by decide,by decide,by show (0:Int)<n;lia⟩,by simp,by decide⟩
theorem iB(n:Int)(t:Dat)(h:j4 [.int n,t]=some (.val (.bl false))):nD [.int n,t]=some (.val (.bl false)):=by
 apply Xo;unfold nD
 (refine Dm.Xn ?_ rfl rfl;and_intros)
 exact Xr (XZ (Xp (m_ (U_ rfl (m_ (U_ rfl (T_ (Xl h (Xk (XF rfl)) rfl rfl))))))))
theorem D3(n m:Int)(a b:Dat)(h:lI [.int m]=some (.val (.bl false))):j4 [.int n,.tup [.int m,a,b]]=some (.val (.bl false)):=by
 apply Xo;unfold j4
 (refine Dm.Xn ?_ rfl rfl;and_intros)
 refine Xi (Xy (XM (Xv (Xq (XJ (U_ rfl (XN (v:=.val (.bl true)) (Xk (XF ?_)) rfl rfl)))))));refine Xq (V_ (Xz (m_ (U_ rfl (T_ (X6 ?_ rfl))))));refine W_ (XY (Xk (XD rfl ?_)) rfl rfl);refine XH (Xr (XZ (Xp (m_ (V_ (U_ rfl (W_ (Xm ?_ rfl rfl rfl))))))));exact T_ (Xl h (Xk (XF rfl)) rfl rfl)
theorem D4(n m:Int)(a b:Int)(hm:lI [.int m]=some (.val (.bl true)))(ha:gS [.int n,.int a]=some (.val (.bl true)))(h:gS [.int n,.int b]=some (.val (.bl false))):j4 [.int n,.tup [.int m,.int a,.int b]]=some (.val (.bl false)):=by
 apply Xo;unfold j4
 (refine Dm.Xn ?_ rfl rfl;and_intros)
 refine Xi (Xy (XM (Xv (Xq (XJ (U_ rfl (XN (v:=.val (.bl true)) (Xk (XF ?_)) rfl rfl)))))));refine Xq (V_ (Xz (m_ (U_ rfl (T_ (X6 ?_ rfl))))));refine W_ (XY (Xk (XD rfl ?_)) rfl rfl);refine XH (Xr (XZ (Xp (m_ (V_ (U_ rfl (W_ (Xm ?_ rfl rfl rfl))))))));refine T_ (Xl hm (Xk (XI ?_)) rfl rfl);refine XZ (Xp (m_ (U_ rfl (m_ (V_ (U_ rfl (W_ (Xm ?_ rfl rfl rfl))))))));refine T_ (Xl ha (Xk (XI ?_)) rfl rfl);refine Xp (m_ (U_ rfl (m_ (V_ (U_ rfl (W_ (Xm ?_ rfl rfl rfl)))))));exact T_ (Xl h rfl rfl rfl)
theorem A9(m:Int)(h:m<0):lI [.int m]=some (.val (.bl false)):=by
 apply Xo;unfold lI
 (refine Dm.Xn ?_ rfl rfl;and_intros)
 refine Xr (Xp (m_ (U_ rfl (m_ (W_ (m_ (V_ (W_ (W_ (X4 (z:=Z30) ?_ rfl rfl (by decide) (by decide)))))))))));exact T_ (Xl (dB m 0 Z30 (by lia)) rfl rfl rfl)
theorem HL(n k:Nat)(n1:1<=n)(n10:n<=10)(k1:1<=k)(k6:k<=6)(K:List Tie)(lK:K.length<=60):∀d∈A8 n k K,bx [d]=some (.val (.bl false)):=by
 have ly:=fy k (by lia) (by lia);intro d hd;unfold A8 at hd;simp only[List.cons_append,U4,Tp,Vc,or_false]at hd;rcases hd with rfl | rfl | rfl | rfl | rfl | rfl | rfl | rfl | rfl | rfl | rfl | rfl | rfl | rfl | rfl | rfl | rfl | rfl | rfl | rfl
 ·exact j9 _ rfl
 ·exact j9 _ rfl
 ·exact sN [] (by decide) (by decide)
 ·exact j9 _ rfl
 ·exact sN [.int n,.int k] (by simp) (by simp)
 ·exact sN [.int n,.int k,bh K,.int 0] (by simp) (by simp)
 ·exact dU _ _ _ ly (iA _ _ (kU _ (j_ _ _ _ rfl)))
 ·exact sO _ _ _ (kT _ (j_ _ _ _ rfl))
 ·exact dU _ _ _ ly (iA _ _ (kU _ (dB 0 1 10 (by decide))))
 ·exact sO _ _ _ (kT _ (dB 0 1 6 (by decide)))
 ·exact dU _ _ _ ly (iA _ _ (kU _ (dB 11 1 10 (by decide))))
 ·exact sO _ _ _ (kT _ (dB 7 1 6 (by decide)))
 ·exact dU _ _ _ ly (vh n n1 n10 _ rfl)
 ·exact dU _ _ _ ly (vh n n1 n10 _ rfl)
 ·exact zu n k n1 n10 k1 k6 [⟨0,0,0⟩] (SJ n n1) fun ms al=>qU k1 rfl al
 ·exact j9 _ rfl
 ·exact dU _ _ _ ly (sP n n1 n10 _ (iB _ _ (D4 n 3 0 n (qT 3 (by decide) (by decide)) (nI n 0 (by decide) (by lia)) (D0 n n (by lia)))))
 ·exact dU _ _ _ ly (sP n n1 n10 _ (iB _ _ (D3 n _ _ _ (A9 _ (by decide)))))
 ·exact dU _ _ _ ly (sP n n1 n10 _ (iB _ _ rfl))
 ·exact zu n 1 n1 n10 (by decide) (by decide) [⟨1,0,0⟩,⟨2,0,0⟩] (SK n n1) fun ms al=>qU (by decide) rfl al
theorem Y5{xs:List Dat}{o:Option (List Dat)}(k:K (.new (.lst xs)))(ho:o=some [.tup xs]):WB ud o K:=⟨_,_,ho,rfl,k⟩
theorem A_(x:Int)(n k:Nat)(n1:1<=n)(n10:n<=10)(k1:1<=k)(k6:k<=6)(K:List Tie)(lK:K.length<=60) :
  ∃d x',u7 [a_ x,iz n k K]=some (.val d,a_ x')/\bx [d]=some (.val (.bl false)):=by
 suffices hh:WrM (u7 [a_ x,iz n k K]) fun v p=>∃d x',v=.val d/\p=a_ x'/\bx [d]=some (.val (.bl false)) by obtain⟨v,p,h1,d,x',rfl,rfl,h2⟩:=hh;exact⟨d,x',h1,h2⟩
 unfold u7;refine Yn ?_ rfl rfl;and_intros;unfold iz;refine Xi (Y3 (U_ rfl (Xu ⟨_,_,rfl,rfl,?_⟩)));have V:∀{a:Nat} {da:Dat} {ρ:Env} {r:List FE} {Q:List Val->Env->Prop},ρ[a]?=some (.sh da)->Was r ρ (fun xs ρ2=>Q (.val da::xs) ρ2)->Was (eV a::r) ρ Q:=fun h1 q=>m_ (U_ h1 q);have c:∀{da:Dat} {ρ:Env} {r:List FE} {Q:List Val->Env->Prop},Was r ρ (fun xs ρ2=>Q (.val da::xs) ρ2)->Was (eC da::r) ρ Q:=fun q=>m_ (W_ q);have E:∀{ρ:Env} {r:List FE} {Q:List Val->Env->Prop},Was r ρ (fun xs ρ2=>Q (.new (.lst [])::xs) ρ2)->Was (bA []::r) ρ Q:=fun q=>m_ (XG (T_ (Xj q rfl rfl (by decide))));have z:∀{ds:List Dat},ds.length<20->ds.length<=SZ:=fun h=>by unfold SZ;lia
 refine Xi (Xs (XG (c (E (m_ (Xx (T_ (Xj ?_ rfl rfl (by decide)))))))) (by decide));refine m_ (Xz (V rfl (T_ (Y5 ?_ rfl))));refine m_ (Xx (V rfl (V rfl (T_ (Xj ?_ rfl rfl (z (by simp)))))));refine m_ (Xx (V rfl (V rfl (V rfl (c (T_ (Xj ?_ rfl rfl (z (by simp)))))))));refine m_ (Xx (c (V rfl (E (T_ (Xj ?_ rfl rfl (z (by simp))))))));refine m_ (Xx (V rfl (c (E (T_ (Xj ?_ rfl rfl (z (by simp))))))));refine m_ (Xx (c (V rfl (E (T_ (Xj ?_ rfl rfl (z (by simp))))))));refine m_ (Xx (V rfl (c (E (T_ (Xj ?_ rfl rfl (z (by simp))))))));refine T_ (Xj ?_ rfl rfl (z (by simp)));refine Xw ?_ (by trivial);refine Xi (Xs (V_ (XQ rfl (XG (m_ (Xx (c (V rfl (E (T_ (Xj ?_ rfl rfl (z (by simp))))))))))) ) (by decide));refine m_ (Xx (V rfl (c (E (T_ (Xj ?_ rfl rfl (z (by simp))))))));refine m_ (Xx (V rfl (V rfl (c (T_ (Xj ?_ rfl rfl (z (by simp))))))));refine m_ (Xx (V rfl (V rfl (m_ (V_ (Xz (V rfl (T_ (YT ?_ rfl)))))))));refine Xx (c (T_ (Xj ?_ rfl rfl (z (by simp)))));refine⟨_,_,_,rfl,rfl,(show j0 (.tup (K.map b_)) (.tup [.int 0])=some (.val (.tup (K.map b_++[.int 0]))) from if_pos (by simp;unfold SZ;lia)),?_⟩;refine T_ (Xj ?_ rfl rfl (z (by simp)));refine m_ (Xx (V rfl (V rfl (m_ (XG (m_ (Xx (c (c (c (T_ (Xj ?_ rfl rfl (z (by simp))))))))))))));refine T_ (Xj ?_ rfl rfl (z (by simp)));refine T_ (Xj ?_ rfl rfl (z (by simp)));refine c (T_ (Xj ?_ rfl rfl (z (by simp))));refine X5 ?_ rfl rfl (by simp;unfold SZ;lia);refine Xw ?_ (by trivial);refine Xi (Xs (V_ (XQ rfl (XG (m_ (Xx (V rfl (V rfl (m_ (XG (m_ (Xx (c (c (V rfl (T_ (Xj ?_ rfl rfl (z (by simp)))))))))))))))))) (by decide));refine T_ (Xj ?_ rfl rfl (z (by simp)));refine T_ (Xj ?_ rfl rfl (z (by simp)));refine m_ (Xx (V rfl (V rfl (m_ (XG (m_ (Xx (m_ (V_ (W_ (W_ (X3 ?_ rfl rfl))))))))))));refine c (c (T_ (Xj ?_ rfl rfl (z (by simp)))));refine T_ (Xj ?_ rfl rfl (z (by simp)));refine T_ (Xj ?_ rfl rfl (z (by simp)));refine m_ (Xx (V rfl (V rfl (m_ (XG (m_ (XG (c (c (c (T_ (Xj ?_ rfl rfl (z (by simp))))))))))))));refine T_ (Xj ?_ rfl rfl (z (by simp)));refine T_ (Xj ?_ rfl rfl (z (by simp)));refine m_ (Xx (V rfl (c (m_ (XG (m_ (Xx (c (c (c (T_ (Xj ?_ rfl rfl (z (by simp))))))))))))));refine m_ (Xx (c (c (c (T_ (Xj ?_ rfl rfl (z (by simp))))))));refine T_ (Xj ?_ rfl rfl (z (by simp)));refine T_ (Xj ?_ rfl rfl (z (by simp)));refine T_ (Xj ?_ rfl rfl (z (by simp)));refine X5 ?_ rfl rfl (by simp;unfold SZ;lia);refine Xw ?_ (by trivial);have hb:=HL n k n1 n10 k1 k6 K lK;have hL:(A8 n k K).length=20:=by unfold A8;simp
 show Ws _ [_,_,_,_,_,.ow (.lst (A8 n k K))] _ _ _ _
 generalize A8 n k K=L at hb hL ⊢
 refine Xr (V_ (XQ rfl (Yz (Xz (m_ (XQ rfl (T_ (Yu ?_ rfl))))) rfl)));refine d9.mk (zo (m:=(L.length:Nat)) ?_ rfl rfl (by lia) (by unfold jH;lia));have hm:=dS x (L.length:Nat) (by lia);have hi:(x % (L.length:Nat)).toNat<L.length:=by lia
 have hd:gIx (.lst L) (.int (x % (L.length:Nat)))=some (.val (L[(x % (L.length:Nat)).toNat])):=by unfold gIx;dsimp only;have:=mq id L (x % (L.length:Nat)) hm.1 hm.2;rw[V2]at this;rw[this];rfl
 refine Xm ?_ rfl rfl hd;refine Yx ?_;exact⟨_,rfl,_,_,rfl,rfl,hb _ (List.getElem_mem _)⟩
theorem kW{f:List Dat->Option RV}{as:List FE}(h1:eAs as ρ=some (xs,ρ1))(h2:pks ρ1 xs=some ds)(h:f ds=none):eF f as ρ=none:=by unfold eF;rw[h1];dsimp only;rw[h2];dsimp only;rw[h]
theorem nJ{ρ:Env}(h:e ρ=none):sE e ρ=none:=by unfold sE;rw[h]
theorem nK{a b:FS}{ρ:Env}(h:a ρ=none):aB a b ρ=none:=by unfold aB;rw[h]
theorem sQ{t:FT}{a b:FS}(ht:t ρ=some (c,ρ1))(h:(if c then a ρ1 else b ρ1)=none):sIf t a b ρ=none:=by unfold sIf;rw[ht];cases c<;>exact h
theorem SM{f g:FS}{ρ:Env}(h:f ρ=none){B C:Env->Prop}(k:Ws g ρ N R B C):Ws (sUn f g) ρ N R B C:=by obtain⟨o,e,q⟩:=k;exact⟨o,by unfold sUn;rw[h];exact e,q⟩
theorem MY{Rr:Env->Option Env}{C ie:Nat}{h:FS}(e:Rr ρ=some ρ1)(h0:ie≠0){B D:Env->Prop}(k:Ws h (ρ1.set ie (.sh (.exc C))) (fun ρ'=>N (ρ'.set ie .un)) (fun r ρ'=>R r (ρ'.set ie .un)) (fun _=>False) (fun _=>False)):Ws (qI Rr C ie h) ρ N R B D:=by
 obtain⟨o,eo,q⟩:=k;cases o with
 |nx ρ'=>exact⟨.nx (ρ'.set ie .un),by unfold qI;rw[e];dsimp only;rw[if_neg h0,eo],q⟩
 |ret r ρ'=>exact⟨.ret r (ρ'.set ie .un),by unfold qI;rw[e];dsimp only;rw[if_neg h0,eo],q⟩
 |bk ρ'=>exact q.elim
 |ct ρ'=>exact q.elim
theorem dD{bad:List Dat->Bool}{fs:List FE}(h1:eAs fs ρ=some (xs,ρ1))(h2:pks ρ1 xs=some ds)(h:bad ds=true):fJ bad fs ρ=some ρ1:=by unfold fJ;rw[h1];dsimp only;rw[h2];dsimp only;rw[if_pos h]
theorem mw{n m:Nat}{body:FS}(h:body (ds.map Cell.sh++Dk m .un)=none):fn n m body ds=none:=by
 unfold fn;split
 ·rw[h]
 ·rfl
theorem mz{n m:Nat}{R:Env->Option Env}{ρ:Env}(hl:ds.length=n)(h:R (ds.map Cell.sh++Dk m .un)=some ρ):fnX n m R ds=true:=by unfold fnX;rw[h,decide_eq_true hl];rfl
theorem JH{d:Dat}(h:bx [d]=some (.val (.bl c))):(eU (tV (eF bx [(eV 0)]))) [.sh d]=some (!c,[.sh d]):=
 Yc (Xv (Xq (Xp (m_ (U_ rfl (T_ (Xl h (Xk ⟨rfl,rfl⟩) rfl rfl)))))))
theorem gU{d:Dat}(h:bx [d]=some (.val (.bl false))):qP [d]=none:=mw (sQ (JH h) rfl)
theorem nM{d:Dat}(h:bx [d]=some (.val (.bl false))):bz [d]=true:=mz (ρ:=[.sh d]) rfl (by show rIf _ _ _ [.sh d]=_;unfold rIf;rw[JH h];rfl)
theorem xP(r:List Tie)(hl:r.length<=1000)(S:List Int):qN [bh r,tupI S]=some (.new (.lst ((bL r S).map Dat.int))):=by
 apply Xo;unfold qN
 (refine Dm.Xn ?_ rfl rfl;and_intros)
 refine Xr ?_;refine Y9 b_ r (ovr S) (·.m) Dat.int (fun t=>.int t.m) (fun t=>.int t.a) (fun t=>.int t.b) (fun _=>rfl) (d:=bh r) ?_ rfl rfl rfl (by decide) (by unfold SZ;lia) (fun u _=>?_) fun u _ _=>?_
 ·rfl
 ·refine Xq (V_ (V_ (U_ rfl (U_ rfl (Yd (xs:=S) ?_ rfl rfl)))));refine V_ (U_ rfl (U_ rfl (Yd (xs:=S) ?_ rfl rfl)));exact Yo (Xk ⟨rfl,rfl⟩) rfl rfl
 ·exact U_ rfl (Xu ⟨rfl,rfl⟩)
theorem HM(r:List Tie)(hl:r.length<=1000)(S:List Int):zj [bh r,tupI S]=some (.new (.lst ((bL r S).map Dat.int))):=by
 apply Xo;unfold zj
 (refine Dm.Xn ?_ rfl rfl;and_intros)
 refine Xr ?_;refine YK b_ r (ovr S) (·.m) Dat.int (d:=bh r) ?_ rfl rfl rfl (by decide) (by unfold SZ;lia) (fun u _=>?_) fun u _ _=>?_
 ·rfl
 ·refine Xq (V_ (V_ (V_ (U_ rfl (W_ (Xm (v:=.int u.a) ?_ rfl rfl rfl))))));refine U_ rfl (Yd (xs:=S) ?_ rfl rfl);refine V_ (V_ (U_ rfl (W_ (Xm (v:=.int u.b) ?_ rfl rfl rfl))));refine U_ rfl (Yd (xs:=S) ?_ rfl rfl);exact Yo (Xk ⟨rfl,rfl⟩) rfl rfl
 ·exact V_ (U_ rfl (W_ (Xm (v:=.int u.m) (Xu ⟨rfl,rfl⟩) rfl rfl rfl)))
theorem Ba(r:List Tie)(hl:r.length<=1000)(t:Int):u6 [bh r,.int t]=some (.new (bh (bX r t))):=by
 have:u6=lJ:=by unfold u6 lJ;rfl
 rw[this];exact vf r hl t
noncomputable def bR:Nat->List (List Int)
 |0=>[[]]
 |p+1=>bR p++(bR p).map fun S=>S++[((p+1:Nat):Int)]
theorem dF:∀p,(bR p).length=2 ^ p
 |0=>rfl
 |p+1=>by rw[bR,Tz,Dp,dF p,Nat.pow_succ];lia
theorem gf:∀(p:Nat) (S:List Int),S∈bR p->(∀x∈S,1<=x/\x<=p)/\S.length<=p
 |0,S,h=>by rw[bR]at h;have:=TJ.mp h;subst this;refine⟨fun x hx=>?_,Nat.le_refl _⟩;cases hx
 |p+1,S,h=>by
  rw[bR]at h;rcases T9.mp h with h | h
  ·obtain⟨a,b⟩:=gf p S h;exact⟨fun x hx=>⟨(a x hx).1,by have:=(a x hx).2;lia⟩,by lia⟩
  ·obtain⟨T,hT,rfl⟩:=U0.mp h;obtain⟨a,b⟩:=gf p T hT;refine⟨fun x hx=>?_,by rw[Tz];simp;lia⟩;rcases T9.mp hx with hx | hx
   ·exact⟨(a x hx).1,by have:=(a x hx).2;lia⟩
   ·rw[TJ.mp hx];lia
theorem gg:∀p,(bR p).Nodup
 |0=>by simp[bR]
 |p+1=>by
  rw[bR];refine List.nodup_append.mpr ⟨gg p,?_,fun S hS T hT e=>?_⟩
  ·refine WE.map _ (fun a b SA e=>SA ?_) (gg p);exact List.append_cancel_right e
  ·obtain⟨U,hU,rfl⟩:=U0.mp hT;have:=((gf p S hS).1 ((p+1:Nat):Int) (by rw[e];simp)).2
   lia
theorem fB:∀p,∃r,bR p=[]::r/\∀S∈r,S≠[]
 |0=>⟨[],rfl,fun S h=>by cases h⟩
 |p+1=>by
  obtain⟨r,e,h⟩:=fB p;refine⟨r++(bR p).map fun S=>S++[((p+1:Nat):Int)],by rw[bR,e];rfl,fun S hS=>?_⟩;rcases T9.mp hS with hS | hS
  ·exact h S hS
  ·obtain⟨T,_,rfl⟩:=U0.mp hS;simp
theorem vj{p:Nat}(h:p<=9):2 ^ p<=512:=Nat.pow_le_pow_right (by decide) h
theorem qV(S:List Int)(x:Int){ρ:Env}{a b:FE}(ha:a ρ=some (.val (tupI S),ρ))(hb:b ρ=some (.val (.int x),ρ))(hl:S.length<=20)(q:Q (.val (tupI (S++[x]))) ρ):We (e2 j0 a (bg [b])) ρ Q:=by refine V_ ⟨_,_,ha,Xx (m_ ⟨_,_,hb,T_ (Xj ?_ rfl rfl (by show 1<=SZ;unfold SZ;lia))⟩)⟩;refine⟨_,_,_,rfl,rfl,(show j0 (tupI S) (.tup [.int x])=some (.val (tupI (S++[x]))) from ?_),q⟩;show (if (S.map Dat.int).length+1<=SZ then some (RV.val (.tup (S.map Dat.int++[.int x]))) else none)=_;rw[if_pos (by rw[Dp];unfold SZ;lia)];show _=some (RV.val (.tup ((S++[x]).map Dat.int)));rw[Uw];rfl
theorem Bb(n:Nat)(n1:1<=n)(n10:n<=10):zk [.int (n:Nat)]=some (.new (.lst ((bR (n-1)).tail.map tupI))):=by
 apply Xo;unfold zk
 (refine Dm.Xn ?_ rfl rfl;and_intros)
 refine Xi (Xs (XG (m_ (Xx (T_ (Xj (T_ (Xj (Xw ?_ (by trivial)) rfl rfl (by decide))) rfl rfl (by decide)))))) (by decide));refine Xi (XT (YI (W_ (d9.mk (U_ rfl (d9.mk ⟨?_,by unfold BIG;lia⟩))))));rw[show ((n:Int)-1).toNat=n-1 by lia,sM];refine XU (fun i:Nat=>Dat.int (1+(i:Int))) _ _ (TV (n-1)) _ _ _ _ _ (fun p q ρ=>∃c2:Cell,ρ=[.sh (.int (n:Nat)),.ow (.lst ((bR p.length).map tupI)),c2]) ⟨_,rfl⟩ ?_ ?_
 ·rintro p i q ρ e ⟨c2,rfl⟩;obtain⟨hi,hin⟩:=j6 e;have hb:=vj (p:=p.length) (by lia);refine Dm.cV rfl (by trivial) ?_;unfold DP;refine Xs (V_ (XQ rfl ?_)) (by decide);refine YX tupI (bR p.length) (fun S=>S++[((p.length+1:Nat):Int)]) tupI ?_ rfl (by trivial) rfl (by decide) (by rw[dF];unfold SZ;lia) fun S hS=>?_
  ·refine X5 (Xw ⟨.sh (.int (1+(i:Int))),?_⟩ (by trivial)) rfl rfl (by rw[Dp,Dp,Dp,dF];unfold SZ;lia);rw[Tz,<- Uw];rfl
  ·refine qV S _ rfl rfl (by have:=(gf _ S hS).2;lia) (Xu ⟨?_,rfl⟩);rw[hi,show (1+(p.length:Int))=((p.length+1:Nat):Int) by lia]
 ·rintro ρ ⟨c2,rfl⟩;rw[Uq];refine Xr (YH (XQ rfl (Wp.some (W_ (d9.mk (Wp.none (Wsl.A (xK:=tupI) (xs:=bR (n-1)) (X8 ?_) rfl)))))));obtain⟨r,er,_⟩:=fB (n-1);rw[er];show _=_
  congr 2
  unfold sG;have e1:(min (1:Int) ((r.length:Int)+1)).toNat=1:=by lia
  simp[sIx,e1]
theorem Zc(xK:α->Dat)(x0:α)(r:List α)(p:α->Bool)(v:α->Dat){i:Nat}{k:Nat}{t:FT}{el:FE}{ρ ρa ρb:Env}{Q:Val->Env->Prop}
  (q:Q (.new (.lst (((x0::r).filter p).map v))) (ρb.set i (.ow (.lst ((x0::r).map xK))))) (hi:ρ[i]?=some (.ow (.lst ((x0::r).map xK)))) (h1:ρ.set i .un=ρa) (hk:ρ.length=k) (hkb:ρb.length=k) (hk0:k≠0) (hl:(x0::r).length<=SZ)
  (h0:Wt t (ρa++[.sh (xK x0)]) fun c ρ'=>c=p x0/\ρ'=ρb++[.sh (xK x0)])
  (ht:∀x∈r,Wt t (ρb++[.sh (xK x)]) fun c ρ'=>c=p x/\ρ'=ρb++[.sh (xK x)])
  (he:∀x∈x0::r,p x=true->We el (ρb++[.sh (xK x)]) fun w ρ'=>Wk ρ' w fun d ρ''=>d=v x/\ρ''=ρb++[.sh (xK x)]):We (aM i 1 (bN k) t el) ρ Q:=by
 have xM:ρa.length=ρ.length:=by rw[<- h1,Ug]
 have bda:∀(d:Dat) (c:Cell),bN k d (ρa++[c])=some (ρa++[.sh d]):=fun d c=>by unfold bN;rw[if_neg hk0,Uo _ _ (by lia)];simp[hk,xM]
 have bdb:∀(d:Dat) (c:Cell),bN k d (ρb++[c])=some (ρb++[.sh d]):=fun d c=>by unfold bN;rw[if_neg hk0,Uo _ _ (by lia)];simp[hkb]
 have e:∃c',cK (bN k) t el ((x0::r).map xK) (ρa++[.un]) []=some (((x0::r).filter p).map v,ρb++[c']):=by
  rw[PU,cK,bda];dsimp only;obtain⟨c0,ρ0,e0,rfl,rfl⟩:=h0;rw[e0];have Du:=fun DZ=>uU xK p v (bN k) t el (fun c=>ρb++[c]) bdb r (.sh (xK x0)) DZ (fun x hx=>Yc (ht x hx)) fun x hx=>he x (Tq _ hx);rw[T7];cases hp:p x0 with
  |false=>dsimp only;obtain⟨c',e⟩:=Du [];exact⟨c',by rw[e];rfl⟩
  |true=>dsimp only;obtain⟨w,ρ',e1,d,ρ'',e2,rfl,rfl⟩:=he x0 To hp;rw[e1];dsimp only;rw[e2];dsimp only;obtain⟨c',e⟩:=Du ([]++[v x0]);exact⟨c',by rw[e];rfl⟩
 obtain⟨c',e⟩:=e;refine⟨_,_,?_,q⟩;unfold aM;rw[hi];dsimp only;rw[if_pos (by rw[Dp];exact hl),h1];show (match cK _ _ _ _ (ρa++[.un]) [] with | none=>none | some (ys,ρ2)=>some (Val.new (.lst ys),(ρ2.take ρ.length).set i (.ow (.lst ((x0::r).map xK)))))=_;rw[e];dsimp only;rw[show ρ.length=ρb.length by lia,VG]
noncomputable def amg(r:List Tie)(p:Nat):List Tie:=r.filter fun t=>decide (t.b<=(p:Int))
noncomputable def cF(r:List Tie)(k p:Nat):List (List Int):=(bR p).filter fun S=>decide ((bL (amg r p) S).length<k)
theorem filter_le{p q:α->Bool}{l:List α}(h:∀x∈l,p x=true->q x=true):(l.filter p).length<=(l.filter q).length:=by
 induction l with
 |nil=>simp
 |cons x l ih=>
  have:=ih fun y hy=>h y (Tq _ hy);rw[T7,T7];cases hp:p x with
  |false=>cases q x<;>simp<;>lia
  |true=>rw[h x To hp];simp;lia
theorem zv(r:List Tie)(p:Nat)(S:List Int):(bL (amg r p) S).length=(r.filter fun t=>decide (t.b<=(p:Int))&&ovr S t).length:=by
 unfold bL amg;rw[Dp,Vy]
 congr 1
 exact VA fun t _=>Xc _ _
theorem Bc{n:Int}(hr:Ends n r)(SA:∀t∈r,t.a<=t.b)(k p:Nat) :
  (cF r k p++(cF r k p).map fun S=>S++[((p+1:Nat):Int)]).filter (fun S=>decide ((bL (amg r (p+1)) S).length<k))=cF r k (p+1):=by
 have ff:∀{α:Type} (a b:α->Bool) (l:List α),(∀x∈l,a x=true->b x=true)->(l.filter b).filter a=l.filter a:=fun a b l h=>by
  rw[Vy];exact VA fun x hx=>by cases ha:a x with
   |false=>simp
   |true=>simp[h x hx ha]
 unfold cF;rw[bR,Wz,Wz,W0,W0]
 congr 1
 ·refine ff _ _ _ fun S hS h=>decide_eq_true ?_;have h:=of_decide_eq_true h;rw[zv]at h ⊢;refine Ve (filter_le fun t ht q=>?_) h;simp only[TN,decide_eq_true_eq]at q ⊢;exact⟨by lia,q.2⟩
 ·congr 1
  refine ff _ _ _ fun S hS h=>decide_eq_true ?_;have h:=of_decide_eq_true (show decide ((bL (amg r (p+1)) (S++[((p+1:Nat):Int)])).length<k)=true from h);rw[zv]at h ⊢;refine Ve (filter_le fun t ht q=>?_) h;simp only[TN,decide_eq_true_eq]at q ⊢;refine⟨by lia,?_⟩;have h1:=SA t ht;have:=q.1;have nm:∀z:Int,z<=p->decide (z∈S++[((p+1:Nat):Int)])=decide (z∈S):=fun z hz=>by
   have SI:z≠((p+1:Nat):Int):=by lia
   by_cases hm:z∈S
   ·rw[decide_eq_true hm,decide_eq_true (UQ _ hm)]
   ·rw[decide_eq_false hm,decide_eq_false fun q=>?_];rcases T9.mp q with q | q
    ·exact hm q
    ·exact SI (TJ.mp q)
  have e1:=nm t.a (by lia);have e2:=nm t.b (by lia);have q2:=q.2;unfold ovr at q2 ⊢;rw[e1,e2];exact q2
theorem HN(r:List Tie):bL r []=[]:=by unfold bL;rw[List.filter_eq_nil_iff.mpr fun t _=>by simp[ovr]];rfl
theorem qW(r:List Tie)(k1:1<=k)(p:Nat):∃q,cF r k p=[]::q:=by obtain⟨q,e,_⟩:=fB p;unfold cF;rw[e,T7,HN];exact⟨_,if_pos (decide_eq_true (show 0<k by lia))⟩
theorem nN(r:List Tie)(k p:Nat):(cF r k p).length<=2 ^ p:=by rw[<- dF];exact UL _ _
theorem HP{k p:Nat}{S:List Int}(h:S∈cF r k p):S∈bR p:=(UJ.mp h).1
noncomputable def bu(n k:Nat)(r:List Tie):List (List Int):=(bR (n-1)).tail.filter fun S=>decide ((bL r S).length<k)
theorem D5{n k:Nat}(n1:1<=n)(hr:Ends n r):(cF r k (n-1)).filter (fun S=>decide (0<S.length))=bu n k r:=by
 have e:amg r (n-1)=r:=by
  unfold amg;refine Vs.mpr fun t ht=>decide_eq_true ?_;have:=(hr t ht).2.2.2
  lia
 unfold cF bu;rw[e];obtain⟨q,eq,hq⟩:=fB (n-1);rw[eq,Vy,T7,if_neg (by simp),List.tail_cons];refine VA fun S hS=>?_;have:0<S.length:=List.length_pos_iff.mpr (hq S hS);simp[this]
theorem HQ(n k:Nat)(n1:1<=n)(n10:n<=10)(k1:1<=k)(r:List Tie)(hr:Ends n r)(SA:∀t∈r,t.a<=t.b)(hl:r.length<=1000) :
  uY [.int (n:Nat),bh r,.int (k:Nat)]=some (.new (.lst ((bu n k r).map tupI))):=by
 apply Xo;unfold uY
 (refine Dm.Xn ?_ rfl rfl;and_intros)
 refine Xi (Xs (XG (m_ (Xx (T_ (Xj (T_ (Xj (Xw ?_ (by trivial)) rfl rfl (by decide))) rfl rfl (by decide)))))) (by decide));refine Xi (XT (YI (W_ (d9.mk (U_ rfl (d9.mk ⟨?_,by unfold BIG;lia⟩))))));rw[show ((n:Int)-1).toNat=n-1 by lia,sM];have t0:cF r k 0=[[]]:=by
  obtain⟨q,e⟩:=qW r k1 0;have:=nN r k 0;rw[e]at this ⊢;cases q with
  |nil=>rfl
  |cons a b=>simp at this
 refine XU (fun i:Nat=>Dat.int (1+(i:Int))) _ _ (TV (n-1)) _ _ _ _ _ (fun p q ρ=>∃c4 c5 c6:Cell,ρ=[.sh (.int (n:Nat)),.sh (bh r),.sh (.int (k:Nat)),.ow (.lst ((cF r k p.length).map tupI)),c4,c5,c6]) ⟨_,_,_,by rw[WU,t0];rfl⟩ ?_ ?_
 ·rintro p i q ρ e ⟨c4,c5,c6,rfl⟩;obtain⟨hi,hin⟩:=j6 e;have hb:=vj (p:=p.length) (by lia);have hb2:=nN r k p.length;have ei:(1+(i:Int))=((p.length+1:Nat):Int):=by lia
  refine Dm.cV rfl (by trivial) ?_;rw[ei];unfold DG;refine Xi (Xs ?_ (by decide));refine YK b_ r (fun t=>decide (t.b<=((p.length+1:Nat):Int))) id b_ (d:=bh r) (Xw ?_ (by trivial)) rfl rfl rfl (by decide) (by unfold SZ;lia) (fun u _=>?_) fun u _ _=>?_
  rotate_left
  ·exact Xq (V_ (V_ (U_ rfl (W_ (Xm (v:=.int u.b) (U_ rfl (YN (Xk ⟨rfl,rfl⟩) rfl rfl)) rfl rfl rfl)))))
  ·exact U_ rfl (Xu ⟨rfl,rfl⟩)
  rw[V2];show Ws _ [_,_,_,_,_,.ow (bh (amg r (p.length+1))),_] _ _ _ _;have hla:(amg r (p.length+1)).length<=1000:=Nat.le_trans (UL _ _) hl;refine Xi (Xs (V_ (XQ rfl ?_)) (by decide));refine YX tupI (cF r k p.length) (fun S=>S++[((p.length+1:Nat):Int)]) tupI ?_ rfl (by trivial) rfl (by decide) (by unfold SZ;lia) fun S hS=>?_
  rotate_left
  ·exact qV S _ rfl rfl (by have:=(gf _ S (HP hS)).2;lia) (Xu ⟨rfl,rfl⟩)
  refine X5 (Xw ?_ (by trivial)) rfl rfl (by rw[Dp,Dp,Dp];unfold SZ;lia);rw[<- Uw];obtain⟨w,ew⟩:=qW r k1 p.length;have step:=Bc hr SA k p.length;have xM:(cF r k p.length++(cF r k p.length).map fun S=>S++[((p.length+1:Nat):Int)]).length<=2000:=by rw[Tz,Dp];lia
  rw[show (p++[i]).length=p.length+1 by simp,<- step];obtain⟨w2,ew2⟩:∃w2,(cF r k p.length++(cF r k p.length).map fun S=>S++[((p.length+1:Nat):Int)])=[]::w2:=⟨_,by rw[ew];rfl⟩
  rw[ew2]at xM ⊢
  generalize cF r k p.length=TL at *
  generalize amg r (p.length+1)=AM at *
  refine Xs ?_ (by decide);refine Zc tupI [] w2 (fun S=>decide ((bL AM S).length<k)) tupI (ρb:=[.sh (.int (n:Nat)),.sh (bh r),.sh (.int (k:Nat)),.ow (.lst (TL.map tupI)),.sh (.int ((p.length+1:Nat):Int)),.sh (bh AM),.un])
   (Xw ⟨_,_,_,rfl⟩ (by trivial)) rfl (by trivial) rfl rfl (by decide) (by unfold SZ;lia) ?_ (fun S _=>?_) fun S _ _=>?_
  ·refine Xq (V_ (Xz (m_ (Xp (m_ (XQ rfl (m_ (U_ rfl (T_ (XC (xP AM hla []) ?_ rfl rfl rfl rfl)))))))))) ;refine T_ (X_ (xK:=Dat.int) (xs:=bL AM []) ?_ rfl);refine U_ rfl (Yh (Xk ⟨?_,rfl⟩) rfl rfl);exact decide_eq_decide.mpr (by lia)
  ·refine Xq (V_ (Xz (m_ (Xp (m_ (U_ rfl (m_ (U_ rfl (T_ (XC (xP AM hla S) ?_ rfl rfl rfl rfl)))))))))) ;refine T_ (X_ (xK:=Dat.int) (xs:=bL AM S) ?_ rfl);refine U_ rfl (Yh (Xk ⟨?_,rfl⟩) rfl rfl);exact decide_eq_decide.mpr (by lia)
  ·exact U_ rfl (Xu ⟨rfl,rfl⟩)
 ·rintro ρ ⟨c4,c5,c6,rfl⟩;rw[Uq];have hb:=vj (p:=n-1) (by lia);have hb2:=nN r k (n-1);refine Xr ?_;refine Y6 tupI (cF r k (n-1)) (fun S=>decide (0<S.length)) id tupI (X8 ?_) rfl (by trivial) rfl (by decide) (by unfold SZ;lia) (fun S _=>?_) fun S _ _=>?_
  ·rw[V2,D5 n1 hr]
  ·refine Xq (V_ (Xz (m_ (U_ rfl (T_ (X6 (xs:=S.map Dat.int) ?_ rfl))))));refine W_ (X7 (Xk ⟨?_,rfl⟩) rfl rfl);rw[Dp];exact decide_eq_decide.mpr (by lia)
  ·exact U_ rfl (Xu ⟨rfl,rfl⟩)
theorem ins_map{α β:Type}(f:α->β)(lt:β->β->Bool)(x:α):∀l:List α,ins lt (f x) (l.map f)=(ins (fun a b=>lt (f a) (f b)) x l).map f
 |[]=>rfl
 |y::l=>by
  rw[PU,ins,ins];split
  ·rw[ins_map f lt x l,PU]
  ·rw[PU,PU]
theorem qX{α β:Type}(f:α->β)(lt:β->β->Bool):∀l:List α,cB lt (l.map f)=(cB (fun a b=>lt (f a) (f b)) l).map f
 |[]=>rfl
 |x::l=>by rw[PU,cB,cB,qX f lt l,ins_map]
noncomputable abbrev Bd(r:List Tie)(S:List Int):Dat:=.lst ((bL r S).map Dat.int)
noncomputable def cutD(r:List Tie)(S:List Int):Dat:=.tup [tupI S,Bd r S]
noncomputable def nQ(r:List Tie)(S:List Int):Dat:=.tup [.int ((bL r S).length:Nat),tupI S,Bd r S]
noncomputable def vm(r:List Tie)(S:List Int):List Int:=((bL r S).length:Int)::S
noncomputable abbrev FK:FE:=bg [(eB cH [(e2 gIx (eV 0) (eC (.int 1)))]),(e2 gIx (eV 0) (eC (.int 0)))]
theorem sS(r:List Tie)(S:List Int):xG FK (cutD r S)=some (vm r S):=by
 have w:We FK [.sh (cutD r S)] fun v ρ=>v=.val (.tup [.int ((bL r S).length:Nat),tupI S])/\ρ=[.sh (cutD r S)]:=by refine Xx (m_ (Xz (m_ (V_ (U_ rfl (W_ (Xm (v:=Bd r S) ?_ rfl rfl rfl)))))));refine T_ (X_ (xK:=Dat.int) (xs:=bL r S) ?_ rfl);refine m_ (V_ (U_ rfl (W_ (Xm (v:=tupI S) ?_ rfl rfl rfl))));exact T_ (Xj ⟨rfl,rfl⟩ rfl rfl (by show 2<=SZ;unfold SZ;lia))
 obtain⟨v,ρ,e,rfl,rfl⟩:=w;unfold xG;rw[e];show (dQ (S.map Dat.int)).map _=_;rw[nC];rfl
theorem D6(r:List Tie)(S:List Int):uT (nQ r S)=some (vm r S):=by show (dQ (S.map Dat.int)).map _=_;rw[nC];rfl
theorem keys_map{g:List Int->List Int}(h:∀S,key (f S)=some (g S)):∀l:List (List Int),keysOf key (l.map f)=some (l.map g)
 |[]=>rfl
 |S::l=>by rw[PU,keysOf,h,keys_map h l];rfl
theorem vn(n k:Nat)(r:List Tie):(bu n k r).Nodup:=by unfold bu;refine List.Nodup.sublist List.filter_sublist ?_;exact List.Nodup.sublist (List.tail_sublist _) (gg _)
theorem kX(n10:n<=10)(k:Nat)(r:List Tie):(bu n k r).length<=512:=by
 unfold bu;refine Nat.le_trans (UL _ _) ?_;rw[List.length_tail,dF];have:=vj (p:=n-1) (by lia)
 lia
noncomputable def kc(n k:Nat)(r:List Tie):List (List Int):=cB (fun a b=>lx (vm r a) (vm r b)) (bu n k r)
theorem mC(h:∀S,key (f S)=some (vm r S))(n10:n<=10)(k:Nat):cE key [.lst ((bu n k r).map f)]=some (.new (.lst ((kc n k r).map f))):=by
 unfold cE;dsimp only;have hl:=kX n10 k r;rw[if_pos (by rw[Dp];lia),keys_map h];dsimp only;have nd:((bu n k r).map (vm r)).Nodup:=by refine WE.map _ (fun a b SA e=>SA ?_) (vn n k r);exact(List.cons.inj e).2
 rw[if_pos nd,qX];have:(fun a b=>ltK key (f a) (f b))=fun a b=>lx (vm r a) (vm r b):=by
  funext a b
  exact f9 (h a) (h b)
 rw[this];rfl
theorem HR(n k:Nat)(n1:1<=n)(n10:n<=10)(k1:1<=k)(k6:k<=6)(N:List Tie)(hN:Net n k N)(t:Int):nE [iz n k N,.int t]=some (.new (.lst ((kc n k (bX N t)).map (cutD (bX N t))))):=by
 have hl:N.length<=60:=hN.1.len;have hs:=zq N t;have ends:Ends n (bX N t):=fun u hu=>hN.1.ends u (UJ.mp hu).1;have SA:∀u∈bX N t,u.a<=u.b:=fun u hu=>(Good.mem hN.1.good u (UJ.mp hu).1).2.1;have h5:=kX n10 k (bX N t);apply Xo;unfold nE
 (refine Dm.Xn ?_ rfl rfl;and_intros)
 refine Xi (YU (Xp (m_ (U_ rfl (T_ (Xl (vg n k n1 n10 k1 k6 N hN) ?_ rfl rfl))))));refine Xi (Xs (Xp (m_ (V_ (U_ rfl (W_ (Xm (v:=bh N) ?_ rfl rfl rfl)))))) (by decide));refine m_ (U_ rfl (T_ (XC (vf N (by lia) t) (Xw ?_ (by trivial)) rfl rfl rfl rfl)));refine Xi (Xs ?_ (by decide));have JB:Wi (iS (eF uY [(e2 gIx (eV 0) (eC (.int 0))),(eV 2),(e2 gIx (eV 0) (eC (.int 1)))])) [.sh (iz n k N),.sh (.int t),.ow (bh (bX N t)),.un] fun ds ρ=>ds=(bu n k (bX N t)).map tupI/\ρ=[.sh (iz n k N),.sh (.int t),.sh (bh (bX N t)),.un]:=by refine Yq (Xp (m_ (V_ (U_ rfl (W_ (Xm (v:=.int (n:Nat)) ?_ rfl rfl rfl))))));refine m_ (XQ rfl (m_ (V_ (U_ rfl (W_ (Xm (v:=.int (k:Nat)) ?_ rfl rfl rfl))))));exact T_ (XC (HQ n k n1 n10 k1 _ ends SA (by lia)) (X0 ⟨_,rfl,rfl,rfl⟩) rfl rfl rfl rfl)
 obtain⟨_,_,JB,rfl,rfl⟩:=JB;refine Yl tupI (bu n k (bX N t)) id (cutD (bX N t)) (Xw ?_ (by trivial)) JB rfl (by decide) (by unfold SZ;lia) fun S hS=>?_
 rotate_left
 ·refine Xx (m_ (U_ rfl (m_ (Xp (m_ (U_ rfl (m_ (U_ rfl (T_ (XC (xP (bX N t) (by lia) S) ?_ rfl rfl rfl rfl))))))))));exact T_ (Xj (Xu ⟨rfl,rfl⟩) rfl rfl (by show 2<=SZ;unfold SZ;lia))
 rw[V2];refine Xr (Xz (m_ (XQ rfl (T_ ⟨_,_,rfl,mC (sS _) n10 k,X8 ?_⟩))));rfl
theorem M0(n k:Nat)(n1:1<=n)(n10:n<=10)(R:List Tie)(hl:R.length<=1000):zl [.int (n:Nat),.int (k:Nat),bh R]=some (.new (.lst ((kc n k R).map (cutD R)))):=by
 have h5:=kX n10 k R;have ht5:(bR (n-1)).tail.length<=512:=by
  rw[List.length_tail,dF];have:=vj (p:=n-1) (by lia)
  lia
 apply Xo;unfold zl
 (refine Dm.Xn ?_ rfl rfl;and_intros)
 refine Xi (Xs (XG (T_ (Xj (Xw ?_ (by trivial)) rfl rfl (by decide)))) (by decide));refine Xi (XT (Yq (Xp (m_ (U_ rfl (T_ (XC (Bb n n1 n10) (X0 ⟨_,rfl,?_⟩) rfl rfl rfl rfl)))))));refine XU tupI _ _ (bR (n-1)).tail _ _ _ _ _ (fun p q ρ=>∃c4 c5:Cell,ρ=[.sh (.int (n:Nat)),.sh (.int (k:Nat)),.sh (bh R),.ow (.lst ((p.filter fun S=>decide ((bL R S).length<k)).map (nQ R))),c4,c5]) ⟨_,_,rfl⟩ ?_ ?_
 ·rintro p S q ρ e ⟨c4,c5,rfl⟩;have hp:p.length<=512:=by rw[e,Tz]at ht5;lia
  refine Dm.cV rfl (by trivial) ?_;unfold DQ;refine Xi (Xs (Xp (m_ (U_ rfl (m_ (U_ rfl (T_ (XC (HM R hl S) (Xw ?_ (by trivial)) rfl rfl rfl rfl))))))) (by decide));refine Xy (Xq (V_ (Xz (m_ (XQ rfl (T_ (X_ (xK:=Dat.int) (xs:=bL R S) ?_ rfl)))))));refine U_ rfl (Yh (Xk ?_) rfl rfl);have ef:(p++[S]).filter (fun S=>decide ((bL R S).length<k))=p.filter (fun S=>decide ((bL R S).length<k))++if (bL R S).length<k then [S] else []:=by rw[Wz,T7];by_cases h:(bL R S).length<k<;>simp[h]
  rw[ef];by_cases h:(bL R S).length<k
  ·rw[decide_eq_true (show ((bL R S).length:Int)<(k:Int) by lia),if_pos h];refine XI ?_;refine Yi (Xx (m_ (Xz (m_ (XQ rfl (T_ (X_ (xK:=Dat.int) (xs:=bL R S) ?_ rfl))))))) rfl;refine m_ (U_ rfl (m_ (XQ rfl (T_ (Xj (Xu (sI ⟨.sh (tupI S),.sh (Bd R S),?_⟩ rfl (by trivial) ?_)) rfl rfl (by show 3<=SZ;unfold SZ;lia))))))
   ·rw[Uw];rfl
   ·rw[Dp];have:=UL (fun S=>decide ((bL R S).length<k)) p;unfold SZ;lia
  ·rw[decide_eq_false (show ¬((bL R S).length:Int)<(k:Int) by lia),if_neg h,Uc];exact XF (XH ⟨_,_,rfl⟩)
 ·rintro ρ ⟨c4,c5,rfl⟩;refine Xr ?_;have es:(bR (n-1)).tail.filter (fun S=>decide ((bL R S).length<k))=bu n k R:=rfl;rw[es];have hc:(kc n k R).length<=512:=by
   rw[show (kc n k R).length=(bu n k R).length from (ck _ _).length_eq];exact h5
  have JB:Wi (iS (eB (cE uT) [(eV 3)])) [.sh (.int (n:Nat)),.sh (.int (k:Nat)),.sh (bh R),.ow (.lst ((bu n k R).map (nQ R))),c4,c5] fun ds ρ=>ds=(kc n k R).map (nQ R)/\ρ=[.sh (.int (n:Nat)),.sh (.int (k:Nat)),.sh (bh R),.ow (.lst ((bu n k R).map (nQ R))),c4,c5]:=
   Yq (Xz (m_ (XQ rfl (T_ ⟨_,_,rfl,mC (D6 R) n10 k,X0 ⟨_,rfl,rfl,rfl⟩⟩))))
  obtain⟨_,_,JB,rfl,rfl⟩:=JB;refine YG (nQ R) (kc n k R) (fun _=>true) id (cutD R) (fun S=>([.sh (.int (n:Nat)),.sh (.int (k:Nat)),.sh (bh R),.ow (.lst ((bu n k R).map (nQ R))),c4,c5,.sh (.int ((bL R S).length:Nat)),.sh (tupI S),.sh (Bd R S)]:Env)) (X8 ?_) JB (fun S=>rfl) (fun S T=>rfl) (fun S=>rfl) (by unfold SZ;lia) (fun S _=>Yw ⟨rfl,rfl⟩) fun S _ _=>?_
  ·rw[Vs.mpr (fun _ _=>rfl),V2]
  ·exact Xx (m_ (U_ rfl (m_ (U_ rfl (T_ (Xj (Xu ⟨rfl,rfl⟩) rfl rfl (by show 2<=SZ;unfold SZ;lia)))))))
theorem vp(r:List Tie)(t:Int)(L:List Int):bL (bX r t) L=(gT (fun x=>if x∈L then 1 else 0) t r).map (·.m):=by
 unfold bL bX gT;rw[Vy]
 congr 1
 refine VA fun x _=>?_;unfold ovr;by_cases ha:x.a∈L<;>by_cases hb:x.b∈L<;>simp[ha,hb,Xc]
theorem Be{n k:Nat}(n10:n<=10)(g:Good n 0 r)(al:bG k r ms)(t:Int):(kc n k (bX (keep r ms) t)).map (cutD (bX (keep r ms) t))=(kc n k (bX r t)).map (cutD (bX r t)):=by
 have one:∀L:List Int,bL (bX (keep r ms) t) L=bL (bX r t) L\/(k<=(bL (bX (keep r ms) t) L).length/\k<=(bL (bX r t) L).length):=fun L=>by
  rw[vp,vp];rcases qS k n (fun x=>if x∈L then 1 else 0) t r ms 0 g al with h | h
  ·exact .inl (by rw[h])
  ·refine .inr ⟨by rw[Dp];exact h,?_⟩;rw[Dp];refine Nat.le_trans h ?_;exact((j7 r ms).filter _).length_le
 have sm:bu n k (bX (keep r ms) t)=bu n k (bX r t):=by
  unfold bu;refine VA fun L _=>?_;rcases one L with h | ⟨h1,h2⟩
  ·rw[h]
  ·rw[decide_eq_false (by lia),decide_eq_false (by lia)]
 have mp:(bu n k (bX (keep r ms) t)).map (cutD (bX (keep r ms) t))=(bu n k (bX r t)).map (cutD (bX r t)):=by
  rw[sm];refine List.map_congr_left fun L hL=>?_;have hs:=of_decide_eq_true (UJ.mp hL).2;rcases one L with h | ⟨h1,h2⟩
  ·unfold cutD Bd;rw[h]
  ·lia
 have e1:=mC (sS (bX (keep r ms) t)) n10 k;have e2:=mC (sS (bX r t)) n10 k;rw[mp,e2]at e1;injection e1 with e1
 injection e1 with e1
 injection e1 with e1
 exact e1.symm
theorem HS(l:List Int):lS (l.map Dat.int) (l.map Dat.int)=true:=by
 induction l with
 |nil=>rfl
 |cons a l ih=>rw[PU,lS,ih];simp[eqD]
theorem M3(r:List Tie)(S:List Int):eqD (cutD r S) (cutD r S)=true:=by simp only[cutD,tupI,eqD,lS,HS,Bool.and_true,Bool.and_self]
theorem HU(r:List Tie)(L:List (List Int)):eqD (.lst (L.map (cutD r))) (.lst (L.map (cutD r)))=true:=by
 rw[eqD]
 induction L with
 |nil=>rfl
 |cons a l ih=>rw[PU,lS,ih,M3];rfl
theorem M4{ρ:Env}(h:e ρ=none):sA i e ρ=none:=by unfold sA;split<;>first | rfl | (rw[h])
noncomputable abbrev ans:Dat:=.lst [.bl true,.bl true,.bl false]
theorem xQ{cs:List Nat}{bs:List Bool}{C:Nat}{b:Bool}{o:Option Dat}(k:K (.val (.bl b)))(ho:o=some (.exc C))(h:uS cs bs C=some b):Wg1 (j3 cs bs) o K:=⟨_,_,ho,by show (uS cs bs C).bind vB=_;rw[h];rfl,k⟩
theorem is1(x:Nat)(b:Bool):uS [x] [b] x=some b:=by unfold uS;rw[if_pos rfl]
noncomputable abbrev alone:Dat:=.tup [.str [97,108,111,110,101]]
theorem zw(h:bx [d]=some (.val (.bl false))):nE [d,t]=none:=
 mw (nK (nJ (kW (xs:=[.val d]) (ρ1:=[.sh d,.sh t,.un,.un]) (ds:=[d]) rfl rfl (gU h))))
theorem QL(h:bx [d]=some (.val (.bl false))):bD [d,t]=true:=
 mz (ρ:=[.sh d,.sh t,.un,.un]) rfl (dD (xs:=[.val d]) (ds:=[d]) rfl rfl (nM h))
theorem HV(h:bx [d]=some (.val (.bl false))):DJ [d,t]=none:=
 mw (nK (M4 (kW (xs:=[.val d,.val t]) (ρ1:=[.sh d,.sh t,.un,.un]) (ds:=[d,t]) rfl rfl (zw h))))
theorem SN(h:bx [d]=some (.val (.bl false))):cu [d,t]=true:=
 mz (ρ:=[.sh d,.sh t,.un,.un]) rfl (dD (xs:=[.val d,.val t]) (ds:=[d,t]) rfl rfl (QL h))
theorem HW{d t a:Dat}(h:bx [d]=some (.val (.bl false))):DL [d,t,a]=none:=
 mw (nK (nJ (kW (xs:=[.val d]) (ρ1:=[.sh d,.sh t,.sh a,.un,.un]) (ds:=[d]) rfl rfl (gU h))))
theorem SO{d t a:Dat}(h:bx [d]=some (.val (.bl false))):bU [d,t,a]=true:=
 mz (ρ:=[.sh d,.sh t,.sh a,.un,.un]) rfl (dD (xs:=[.val d]) (ds:=[d]) rfl rfl (nM h))
theorem QM{t:FT}{a b:FS}(ht:t ρ=some (true,ρ1))(h:a ρ1=none):sIf t a b ρ=none:=sQ ht h
theorem M5{t:FT}{a b:FS}(ht:t ρ=some (false,ρ1))(h:b ρ1=none):sIf t a b ρ=none:=sQ ht h
theorem JI{t:FT}{o:Option Env}(ht:t ρ=some (true,ρ1))(h:a ρ1=o):rIf t a b ρ=o:=by unfold rIf;rw[ht];exact h
theorem D7{t:FT}{o:Option Env}(ht:t ρ=some (false,ρ1))(h:b ρ1=o):rIf t a b ρ=o:=by unfold rIf;rw[ht];exact h
noncomputable abbrev E3(w:Int)(d:Dat):Env:=[.sh (.int w),.sh d,.un]
theorem refused{w:Int}(hw:w=0\/w=1\/w=2){d:Dat}(h:bx [d]=some (.val (.bl false)))(x:Nat):zm x [.int w,d]=some (.new ans):=by
 apply Xo;unfold zm
 (refine Dm.Xn ?_ rfl rfl;and_intros)
 refine Xi (SM ?_ (MY (ie:=2) (C:=x) (ρ1:=E3 w d) ?_ (by decide) ?_))
 ·rcases hw with rfl | rfl | rfl
  ·exact QM (ρ1:=E3 0 d) rfl (nJ (kW (ρ1:=E3 0 d) (xs:=[.val d]) (ds:=[d]) rfl rfl (zw h)))
  ·exact M5 (ρ1:=E3 1 d) rfl (QM (ρ1:=E3 1 d) rfl (nJ (kW (ρ1:=E3 1 d) (xs:=[.val d,.val (.int 3)]) (ds:=[d,.int 3]) rfl rfl (HV h))))
  ·exact M5 (ρ1:=E3 2 d) rfl (M5 (ρ1:=E3 2 d) rfl (nJ (kW (ρ1:=E3 2 d) (xs:=[.val d,.val (.int 0),.val alone]) (ds:=[d,.int 0,alone]) rfl rfl (HW h))))
 ·rcases hw with rfl | rfl | rfl
  ·exact JI (ρ1:=E3 0 d) rfl (dD (xs:=[.val d]) (ds:=[d]) rfl rfl (QL h))
  ·exact D7 (ρ1:=E3 1 d) rfl (JI (ρ1:=E3 1 d) rfl (dD (xs:=[.val d,.val (.int 3)]) (ds:=[d,.int 3]) rfl rfl (SN h)))
  ·exact D7 (ρ1:=E3 2 d) rfl (D7 (ρ1:=E3 2 d) rfl (dD (xs:=[.val d,.val (.int 0),.val alone]) (ds:=[d,.int 0,alone]) rfl rfl (SO h)))
 refine Xr (XG (m_ (XJ (U_ rfl (xQ ?_ rfl (is1 x true))))));refine m_ (XJ (U_ rfl (xQ ?_ rfl (is1 x true))));refine m_ (XJ (U_ rfl (xQ ?_ rfl (is1 x false))));exact T_ (Xj (X8 rfl) rfl rfl (by exact Ut rfl))
theorem HX(r:List Tie)(L:List (List Int)):okD 8 (.lst (L.map (cutD r)))=true:=Qq _ L fun S=>by
 have h:∀(f:Nat) (l:List Int),(l.map Dat.int).all (okD (f+1))=true:=fun f l=>by rw[UE];intro x hx;obtain⟨i,_,rfl⟩:=U0.mp hx;rfl
 simp only[cutD,tupI,okD,WD,List.all_nil,h,Bool.and_true]
noncomputable def D8(r:List Tie):List Int:=([0]++r.map (·.m))++(sG r (some (-1)) none).map fun t=>t.m+1
theorem HY(r:List Tie)(hl:r.length<=60)(c0 c1 c2 c3 c4 c6 c7 c8:Cell):Wi (iS (e2 bS (e2 bS (bA [(eC (.int 0))]) (aM 5 1 (bN 9) bI (e2 gIx (eV 9) (eC (.int 0))))) (bO (iS (eSl (eV 5) (some (e1 Ak (eC (.int 1)))) none)) 1 (bN 9) bI (e2 bS (e2 gIx (eV 9) (eC (.int 0))) (eC (.int 1))))))
  [c0,c1,c2,c3,c4,.sh (bh r),c6,c7,c8] fun ds ρ=>ds=(D8 r).map Dat.int/\ρ=[c0,c1,c2,c3,c4,.sh (bh r),c6,c7,c8]:=by
 have hc:(sG r (some (-1)) none).length<=60:=by
  unfold sG;rw[UD,V4]
  lia
 refine Yq (V_ (V_ (XG (m_ (W_ (T_ (Xj ?_ rfl rfl (by decide))))))));refine Ym b_ r (·.m) Dat.int (d:=bh r) ?_ rfl rfl rfl (by decide) (by unfold SZ;lia) fun u _=>?_
 rotate_left
 ·exact V_ (U_ rfl (W_ (Xm (v:=.int u.m) (Xu ⟨rfl,rfl⟩) rfl rfl rfl)))
 refine X5 ?_ rfl rfl (by rw[Dp,Dp];show 1+r.length<=SZ;unfold SZ;lia);have JB:Wi (iS (eSl (eV 5) (some (e1 Ak (eC (.int 1)))) none)) [c0,c1,c2,c3,c4,.sh (bh r),c6,c7,c8] fun ds ρ=>ds=(sG r (some (-1)) none).map b_/\ρ=[c0,c1,c2,c3,c4,.sh (bh r),c6,c7,c8]:=by refine Yq (YH (U_ rfl (Wp.some (XJ (W_ ⟨_,_,rfl,rfl,?_⟩)))));exact d9.mk (Wp.none (Wsl.A (xK:=b_) (xs:=r) (X0 ⟨_,rfl,rfl,rfl⟩) rfl))
 obtain⟨_,_,JB,rfl,rfl⟩:=JB;refine Yl b_ (sG r (some (-1)) none) (fun t=>t.m+1) Dat.int ?_ JB rfl (by decide) (by unfold SZ;lia) fun u _=>?_
 rotate_left
 ·exact V_ (V_ (U_ rfl (W_ (Xm (v:=.int u.m) (W_ (XO (Xu ⟨rfl,rfl⟩) rfl rfl)) rfl rfl rfl))))
 refine X5 (X0 ⟨_,rfl,?_,rfl⟩) rfl rfl (by rw[Tz,Dp,Dp,Dp,Dp];show 1+r.length+_<=SZ;unfold SZ;lia);unfold D8;rw[Uw,Uw];rfl
end
section
variable(x:Nat)
theorem HZ(S:List Int)(at_:Int)(h0:0<=at_)(h1:at_<900)(c2 c3 c4 c5 c6 c7 c8:Cell){N:Env->Prop}{R:RV->Env->Prop}{B C:Env->Prop}(nx:∀c1 c2 c3 c4 c5 c6 c7 c8,N [.sh (.lst (S.map Dat.int)),c1,c2,c3,c4,c5,c6,c7,c8]) :
  Ws (xO x) [.sh (.lst (S.map Dat.int)),.sh (.int at_),c2,c3,c4,c5,c6,c7,c8] N R B C:=by
 obtain⟨p,ep⟩:=sJ S at_ h0 (by lia);obtain⟨n,x1,en,n1,n10⟩:=HD p;obtain⟨n,rfl⟩:∃m:Nat,n=m:=⟨n.toNat,by lia⟩
 unfold xO;refine Xi (Xs (Xp ?_) (by decide));refine m_ (U_ rfl (m_ (U_ rfl (T_ (XC ep (Xw ?_ (by trivial)) rfl rfl rfl (by trivial))))));refine Xi (Xs (YJ (T_ (Yr en ?_ rfl rfl (by trivial))) rfl) (by decide));refine XA ?_ (by trivial);refine XR (fun ρ=>∃(k:Nat) (x2:Int),(1<=k/\k<=6)/\ρ=[.sh (.lst (S.map Dat.int)),.sh (.int at_),.ow (a_ x2),.sh (.int (n:Nat)),.sh (.int (k:Nat)),c5,c6,c7,c8]) ?_ ?_
 ·refine Xs (V_ (W_ ?_)) (by decide);refine XW (m:=6) rfl (by decide) (by decide) rfl fun t x2 t0 t1 ρ3 e=>?_;subst e;refine XO (XA ⟨(1+t).toNat,x2,by lia,?_⟩ rfl) rfl rfl;rw[Int.toNat_of_nonneg (by lia)];rfl
 rintro ρ ⟨k,x2,⟨k1,k6⟩,rfl⟩;obtain⟨y,ey⟩:=sJ S (at_+1) (by lia) (by lia);refine XR (fun ρ=>∃r:List Tie,Rcd n r/\ρ=[.sh (.lst (S.map Dat.int)),.sh (.int at_),.ow (a_ x2),.sh (.int (n:Nat)),.sh (.int (k:Nat)),.ow (bh r),c6,c7,c8]) ?_ ?_
 ·refine Xs (Y_ (m_ (Xp ?_))) (by decide);refine m_ (U_ rfl (m_ (V_ (U_ rfl (W_ (XO ?_ rfl rfl))))));refine T_ (XC ey ?_ rfl rfl rfl (by trivial));refine m_ (U_ rfl (m_ ?_));obtain⟨most,em,m0,m30⟩:∃most:Int,gIx (.lst [.int 18,.int 8]) (.int (b2i (decide (6<(n:Int)))))=some (.val (.int most))/\0<=most/\most<=60:=by
   by_cases q:6<(n:Int)
   ·rw[decide_eq_true q];exact⟨8,rfl,by decide,by decide⟩
   ·rw[decide_eq_false q];exact⟨18,rfl,by decide,by decide⟩
  obtain⟨r,y',er,gr,lr,mr⟩:=AY y n most (by lia) (by lia) m0 m30;refine V_ (XG (m_ (W_ (m_ (W_ (T_ (Xj ?_ rfl rfl (by decide))))))));refine Xz (m_ (V_ (U_ rfl (W_ (X7 (T_ (Yt ?_ rfl)) rfl rfl)))));refine Xm ?_ rfl rfl em;refine T_ ⟨_,_,_,_,_,rfl,rfl,er,?_⟩;exact Xw ⟨r,Rcd.of gr (by lia) mr,rfl⟩ (by trivial)
 rintro ρ ⟨r,hr,rfl⟩;obtain⟨ms,_,al⟩:=fq n k (by lia) k1 k6 r hr.ends (by have:=hr.len;lia);have SQ:=MX n k (by lia) k1 k6 r ms hr.ends (by have:=hr.len;lia) al;have sK:=j7 r ms;have lK:=sK.length_le;have lr:=hr.len;have net:Net n k (keep r ms):=⟨hr.sub sK,_,ve al,fun z=>by simpa using(UJ.mp z).2⟩
 refine Xi (Xs (Xp (m_ (U_ rfl (m_ (XQ rfl (m_ (U_ rfl (T_ (XC SQ (XA ?_ (by trivial)) rfl rfl rfl (by trivial)))))))))) (by decide));refine Xi (XT ?_);obtain⟨_,_,JB,rfl,rfl⟩:=HY r lr (.sh (.lst (S.map Dat.int))) (.sh (.int at_)) (.ow (a_ x2)) (.sh (.int (n:Nat))) (.sh (.int (k:Nat))) (.sh (iz n k (keep r ms))) c7 c8;refine⟨_,_,JB,?_⟩;refine XU Dat.int _ _ (D8 r) _ _ _ _ _ (fun p q ρ=>∃c7:Cell,ρ=[.sh (.lst (S.map Dat.int)),.sh (.int at_),.ow (a_ x2),.sh (.int (n:Nat)),.sh (.int (k:Nat)),.sh (bh r),.sh (iz n k (keep r ms)),c7,c8]) ⟨_,rfl⟩ ?_ ?_
 ·rintro p t q ρ e ⟨c7,rfl⟩;refine Dm.cV rfl (by trivial) ?_;unfold DR;have ec:=HR n k (by lia) (by lia) k1 k6 (keep r ms) net t;rw[Be (by lia) hr.good al t]at ec;have ls:=zq r t;refine Xy (Xq (V_ (Xp (m_ (U_ rfl (m_ (U_ rfl (T_ (XC ec ?_ rfl rfl rfl rfl)))))))));refine Xp (m_ (U_ rfl (m_ (U_ rfl (m_ (Xp (m_ (U_ rfl (m_ (U_ rfl (T_ (XC (Ba r (by lia) t) ?_ rfl rfl rfl rfl))))))))))));refine T_ (XC (M0 n k (by lia) (by lia) (bX r t) (by lia)) ?_ rfl rfl rfl rfl);exact YR (HX _ _) (HU _ _) (Xk (XF (XH ⟨_,rfl⟩))) rfl rfl
 ·rintro ρ ⟨c7,rfl⟩;obtain⟨y2,ey2⟩:=sJ S (at_+2) (by lia) (by lia);refine Xi (Xs (Xp ?_) (by decide));refine m_ (U_ rfl (m_ (V_ (U_ rfl (W_ (XO (T_ (XC ey2 (Xw ?_ (by trivial)) rfl rfl rfl (by trivial))) rfl rfl))))));refine XT (Yj (W_ (d9.mk ⟨?_,by unfold BIG;lia⟩)));refine XU (fun i:Nat=>Dat.int (0+(i:Nat))) _ _ (TV 3) _ _ _ _ _ (fun p q ρ=>∃(y:Int) (c8:Cell),ρ=[.sh (.lst (S.map Dat.int)),.sh (.int at_),.ow (a_ y),.sh (.int (n:Nat)),.sh (.int (k:Nat)),.sh (bh r),.sh (iz n k (keep r ms)),c7,c8]) ⟨_,_,rfl⟩ ?_ ?_
  ·rintro p i q ρ e ⟨y,c8,rfl⟩;have hi:i<3:=VQ.mp (by rw[e];simp);have hw:(0+(i:Int))=0\/(0+(i:Int))=1\/(0+(i:Int))=2:=by lia
   refine Dm.cV rfl (by trivial) ?_;unfold DU;obtain⟨d,y3,ed,nd⟩:=A_ y n k (by lia) (by lia) k1 k6 (keep r ms) (by lia);refine Xy (Xq (V_ (Xp (m_ (U_ rfl (m_ (YJ (m_ (U_ rfl (T_ (Yr ed ?_ rfl rfl (by trivial))))) rfl)))))));refine T_ (XC (refused hw nd x) ?_ rfl rfl rfl (by trivial));refine XG (m_ (W_ (m_ (W_ (m_ (W_ (T_ (Xj ?_ rfl rfl (by exact Ut rfl)))))))));exact YR (d:=ans) rfl (by simp[eqD,lS]) (Xk (XF (XH ⟨_,_,rfl⟩))) rfl rfl
  ·rintro ρ ⟨y,c8,rfl⟩;exact nx _ _ _ _ _ _ _ _
theorem math(ns:List Int)(h:ns.length<=63):qQ x [.lst (ns.map Dat.int)]=some (.val (.bl true)):=by
 apply Xo;unfold qQ
 (refine Dm.Xn ?_ rfl rfl;and_intros)
 obtain⟨top,et,t0,t1⟩:∃top:Int,top=(if (if (9:Int)<((ns.length:Nat):Int) then 9 else ((ns.length:Nat):Int))>1 then (if (9:Int)<((ns.length:Nat):Int) then 9 else ((ns.length:Nat):Int)) else 1)/\1<=top/\top<=12:=⟨_,rfl,by split<;>lia,by split<;>split<;>lia⟩
 refine Xi (XT (Y7 (i:=0) (j:=top) (k:=3) rfl ?_ rfl ⟨by decide,by unfold BIG;lia,by unfold BIG;lia,by decide,by decide⟩ ?_))
 ·rw[et];exact Y0 (Xz (m_ (W_ (m_ (Xz (m_ (Xz (m_ (U_ rfl (T_ (X_ (xK:=Dat.int) (xs:=ns) (m_ (W_ (T_ (Yg (T_ (Yp ⟨rfl,rfl⟩ rfl)) rfl)))) rfl)))))))))))
 unfold iw;refine XU (fun i:Nat=>Dat.int (0+(i:Nat)*3)) _ _ (TV (cR 0 top 3)) _ _ _ _ _ (fun p q ρ=>∃c1 c2 c3 c4 c5 c6 c7 c8:Cell,ρ=[.sh (.lst (ns.map Dat.int)),c1,c2,c3,c4,c5,c6,c7,c8]) ⟨_,_,_,_,_,_,_,_,rfl⟩ ?_ ?_
 ·rintro p i q ρ e ⟨c1,c2,c3,c4,c5,c6,c7,c8,rfl⟩;have hi:i<cR 0 top 3:=(j6 e).2;unfold cR at hi;rw[if_pos (by lia)]at hi;refine Dm.cV rfl (by trivial) ?_;exact HZ x ns _ (by lia) (by lia) _ _ _ _ _ _ _ fun c1 c2 c3 c4 c5 c6 c7 c8=>⟨_,_,_,_,_,_,_,_,rfl⟩
 ·rintro ρ ⟨c1,c2,c3,c4,c5,c6,c7,c8,rfl⟩;exact Xr (W_ rfl)
end
end P
namespace Q
open PySem L2 Br Dm P
noncomputable def top(i:Nat):Stmt:=PySem.Challenge.pw_sinceply_k33_whole_cuts_of_the_record.main.body.getD i (.Pass ⟨0,0,0,0⟩)
noncomputable abbrev tbq(aA aF:Addr):List TbZ:=[⟨aA,aF,rawInt ((155:Nat):Int),rawInt ((28:Nat):Int),(("small_cuts" : Str) ++ ".<locals>.") ++ "<lambda>"⟩]
structure Txt(mg:Str->Option Value)(K:eg)(base:Heap)(xR xS xT xU xV xW xX xY xZ x6 nR nS nT nU nV nW nX nY nZ n5 n6 n8 n9 n_ oj ou oz lM oE oF gW oG gX oH oJ lN oK oM oN oO oQ oR oS oU oV oW oX bV aH cZ c9 bB aA aF:Addr)(oY oZ o6 o7 o8 o9 o_ pe pq pA iC iD iE iF iG iH iI iJ iK iM iN iO iP iQ iR iU iV gh iW iX gj iY kY iZ i0 gk i6 i7 i8 i9 i_ ja jb jc jd je kZ:FuncData)(jf:Tok):Prop where
 x8:mg "NoLayers" = some (.ref bV)
 H_:mg "NoNet" = some (.ref aH)
 D9:mg "NoPair" = some (.ref cZ)
 D_:mg "NoTies" = some (.ref c9)
 x9:mg "PlyError" = some (.ref bB)
 Bf:PyProof.Rows.OwnCls "NoNet" aH bmV "ValueError.__new__" mg base
 k7:qD K aH
 gH:UR K (.ref aH) (.type "ValueError")=some true
 kg:PySem.W.su K aH bB
 pB:UR K (.ref aH) (.ref aH)=some true
 cJ:Wm K (.ref aH) (([bV,cZ,c9]:List Addr).map TZ)=some false
 sV:mg "ValueError" = none
 vq:mg "all" = none
 M6:mg "bool" = none
 M7:mg "dict" = none
 lO:mg "enumerate" = none
 Ea:mg "int" = none
 bq:mg "isinstance" = none
 cC:mg "len" = none
 sW:mg "list" = none
 JJ:mg "max" = none
 Eb:mg "min" = none
 cj:mg "range" = none
 pC:mg "reversed" = none
 QN:mg "set" = none
 pD:mg "sorted" = none
 QO:mg "sum" = none
 kh:mg "tuple" = none
 QS:mg "zip" = none
 p7:lH mg base ⟨aA,aF,rawInt ((155:Nat):Int),rawInt ((28:Nat):Int),(("small_cuts" : Str) ++ ".<locals>.") ++ "<lambda>"⟩
 pF:∃t,mg "MOST_TIES" = some (.int 60 t)
 SR:mg "steps_of" = some (.ref xR)
 SS:mg "free_steps" = some (.ref xS)
 SV:mg "led_steps" = some (.ref xT)
 QT:mg "shortest_ways" = some (.ref xU)
 SW:mg "lead_along" = some (.ref xV)
 SX:mg "parted" = some (.ref xW)
 SY:mg "ways_apart" = some (.ref xX)
 S0:mg "is_whole" = some (.ref xY)
 Ia:mg "is_within" = some (.ref xZ)
 S1:mg "is_places" = some (.ref x6)
 Ec:mg "is_place" = some (.ref nR)
 JK:mg "is_layers" = some (.ref nS)
 QU:mg "is_moment" = some (.ref nT)
 QV:mg "is_tie_either_way" = some (.ref nU)
 QW:mg "is_tie" = some (.ref nV)
 JL:mg "is_rising" = some (.ref nW)
 QX:mg "is_side" = some (.ref nX)
 QY:mg "look_at_layers" = some (.ref nY)
 Ed:mg "rim" = some (.ref nZ)
 QZ:mg "merged" = some (.ref n5)
 Q0:mg "way_right" = some (.ref n6)
 Q2:mg "ways_right" = some (.ref n8)
 Q3:mg "least_layer" = some (.ref n9)
 JM:mg "layered" = some (.ref n_)
 Q4:mg "is_record" = some (.ref oj)
 Ef:mg "since" = some (.ref ou)
 JN:mg "is_net" = some (.ref oz)
 zz:mg "look_at_net" = some (.ref lM)
 Q5:mg "net_of" = some (.ref oE)
 Q6:mg "thin_sides" = some (.ref oF)
 vt:mg "small_cuts" = some (.ref gW)
 JO:mg "shows_of" = some (.ref oG)
 JP:mg "least_cut" = some (.ref gX)
 Q7:mg "is_small" = some (.ref oH)
 JQ:mg "shows_right" = some (.ref oJ)
 JR:mg "least_right" = some (.ref lN)
 Eg:mg "_law_pool" = some (.ref oK)
 gY:mg "_law_take" = some (.ref oM)
 Q8:mg "_law_many" = some (.ref oN)
 Q9:mg "_law_record" = some (.ref oO)
 Q_:mg "_law_since" = some (.ref oQ)
 Ra:mg "_law_rim" = some (.ref oR)
 Rb:mg "_law_sides" = some (.ref oS)
 Rc:mg "_law_no_net" = some (.ref oU)
 Rf:mg "_law_due" = some (.ref oV)
 Rg:mg "_law_refused" = some (.ref oW)
 S6:mg "law" = some (.ref oX)
 Rh:Fun K "steps_of" "steps_of" (top 2) xR oY
 Ri:Fun K "free_steps" "free_steps" (top 3) xS oZ
 Rj:Fun K "led_steps" "led_steps" (top 4) xT o6
 M8:Fun K "shortest_ways" "shortest_ways" (top 5) xU o7
 Rk:Fun K "lead_along" "lead_along" (top 6) xV o8
 M9:Binds K o6 ["steps","heads"] []
 Ib:Binds K o7 ["steps","a"] []
 Rl:Fun K "parted" "parted" (top 7) xW o9
 M_:Binds K oY ["n","ties"] []
 Na:Binds K oZ ["steps","heads"] []
 Nb:Binds K o8 ["heads","way"] []
 Nc:Binds K o9 ["steps","heads","a","b","count"] []
 Rm:Fun K "ways_apart" "ways_apart" (top 1) xX o_
 Rn:Fun K "is_whole" "is_whole" (top 15) xY pe
 Nd:Binds K pe ["thing"] []
 Eh:Fun K "is_within" "is_within" (top 16) xZ pq
 Bg:Binds K pq ["thing","low","high"] []
 Ro:Fun K "is_places" "is_places" (top 17) x6 pA
 zA:Fun K "is_place" "is_place" (top 18) nR iC
 Ei:Fun K "is_layers" "is_layers" (top 19) nS iD
 JS:Fun K "is_moment" "is_moment" (top 20) nT iE
 vv:Binds K iC ["n","thing"] []
 Ej:Binds K iE ["thing"] []
 JT:Fun K "is_tie_either_way" "is_tie_either_way" (top 21) nU iF
 Ek:Binds K iF ["n","thing"] []
 JU:Fun K "is_tie" "is_tie" (top 22) nV iG
 El:Fun K "is_rising" "is_rising" (top 23) nW iH
 zB:Binds K iH ["things"] []
 JV:Fun K "is_side" "is_side" (top 24) nX iI
 zC:Binds K iD ["thing"] []
 JX:Fun K "look_at_layers" "look_at_layers" (top 25) nY iJ
 zD:Fun K "rim" "rim" (top 27) nZ iK
 JY:Fun K "merged" "merged" (top 28) n5 iM
 JZ:Fun K "way_right" "way_right" (top 29) n6 iN
 Em:Binds K iN ["record","a","b","way"] []
 J0:Fun K "ways_right" "ways_right" (top 30) n8 iO
 J2:Fun K "least_layer" "least_layer" (top 33) n9 iP
 Eo:Binds K iJ ["k"] []
 Ep:Binds K iM ["groups","a","b"] []
 Er:Binds K iP ["layers","a","b"] []
 Es:Fun K "layered" "layered" (top 32) n_ iQ
 Nf:Binds K pA ["thing"] []
 Et:Binds K iG ["n","thing"] []
 J3:Fun K "is_record" "is_record" (top 36) oj iR
 zF:Fun K "since" "since" (top 37) ou iU
 zG:Binds K iQ ["n","record","k"] []
 Eu:Binds K iR ["n","thing"] []
 Ew:Fun K "is_net" "is_net" (top 39) oz iV
 zH:Binds K iV ["thing"] []
 qY:Fun K "look_at_net" "look_at_net" (top 40) lM gh
 J4:Fun K "net_of" "net_of" (top 41) oE iW
 vz:Binds K iK ["record","side"] []
 J_:Fun K "thin_sides" "thin_sides" (top 44) oF iX
 vA:Binds K iU ["record","t"] []
 qZ:Binds K gh ["thing"] []
 Ex:Binds K iX ["n","ties","k"] []
 dh:gj.code=.ref aA
 ki:AO K "small_cuts" "small_cuts" (top 43) gW gj
 Ng:Binds K o_ ["n","ties","a","b","most"] []
 Ey:Fun K "shows_of" "shows_of" (top 46) oG iY
 vC:Binds K gj ["net","t"] []
 sX:Binds K gj ["net","t"] [.int 0 jf]
 zI:Binds K iY ["n","ties","count"] []
 q_:AO K "least_cut" "least_cut" (top 45) gX kY
 Ez:Binds K iI ["n","thing"] []
 Ka:Fun K "is_small" "is_small" (top 48) oH iZ
 EA:Binds K iO ["record","a","b","ways"] []
 EB:Fun K "shows_right" "shows_right" (top 49) oJ i0
 EC:Binds K iZ ["net","side","count"] []
 zJ:Binds K i0 ["n","ties","count","shows"] []
 zK:Fun K "least_right" "least_right" (top 47) lN gk
 zL:Fun K "_law_pool" "_law_pool" (top 51) oK i6
 gm:Fun K "_law_take" "_law_take" (top 52) oM i7
 fK:Binds K i7 ["pool","many"] []
 Kc:Fun K "_law_many" "_law_many" (top 53) oN i8
 Kd:Fun K "_law_record" "_law_record" (top 54) oO i9
 Ke:Fun K "_law_since" "_law_since" (top 56) oQ i_
 Kf:Fun K "_law_rim" "_law_rim" (top 59) oR ja
 Kg:Fun K "_law_sides" "_law_sides" (top 63) oS jb
 Kh:Fun K "_law_no_net" "_law_no_net" (top 66) oU jc
 ED:Binds K ja ["ties","side"] []
 EE:Binds K jb ["n"] []
 Kl:Fun K "_law_due" "_law_due" (top 67) oV jd
 zM:Binds K kY ["net","t"] []
 zN:Binds K gk ["net","t","told"] []
 Km:Fun K "_law_refused" "_law_refused" (top 68) oW je
 EF:Binds K iW ["n","record","k"] []
 vD:Binds K i6 ["script","k"] []
 EG:Binds K i8 ["pool"] []
 EH:Binds K i9 ["pool","n","most"] []
 EI:Binds K i_ ["record","t"] []
 EJ:Binds K jc ["pool","net"] []
 EK:Binds K jd ["n","k","ties"] []
 EL:Binds K je ["way","thing"] []
 Rp:Fun K "law" "law" (top 69) oX kZ
section
variable{P':Program}{w:World}{K:eg}{mg:Str->Option Value}{base:Heap}{xR xS xT xU xV xW xX xY xZ x6 nR nS nT nU nV nW nX nY nZ n5 n6 n8 n9 n_ oj ou oz lM oE oF gW oG gX oH oJ lN oK oM oN oO oQ oR oS oU oV oW oX bV aH cZ c9 bB aA aF:Addr}
variable{oY oZ o6 o7 o8 o9 o_ pe pq pA iC iD iE iF iG iH iI iJ iK iM iN iO iP iQ iR iU iV gh iW iX gj iY kY iZ i0 gk i6 i7 i8 i9 i_ ja jb jc jd je kZ:FuncData}{jf:Tok}
theorem vE:au ["n","ties","steps","moment","a","b"] ["n","ties"] (ah (top 2)):=fsc
theorem Nh:(["n","ties","steps","moment","a","b","place"]:List Str).Nodup:=by decide +kernel
theorem Rq:au ["steps","heads"] ["steps","heads"] (ah (top 3)):=fsc
theorem Ni:(["steps","heads","row"]:List Str).Nodup:=by decide +kernel
theorem Nj:(["steps","heads","row","step"]:List Str).Nodup:=by decide +kernel
theorem Rt:au ["steps","heads"] ["steps","heads"] (ah (top 4)):=fsc
theorem Nk:(["steps","heads","row"]:List Str).Nodup:=by decide +kernel
theorem Nl:(["steps","heads","row","step"]:List Str).Nodup:=by decide +kernel
theorem vF:au ["steps","a","ways","pending","place","step"] ["steps","a"] (ah (top 5)):=fsc
theorem EM:au ["heads","way","moment","place"] ["heads","way"] (ah (top 6)):=fsc
theorem rj:au ["steps","heads","a","b","count","left","ways","time","way","moment"] ["steps","heads","a","b","count"] (ah (top 7)):=fsc
theorem Nm:(["steps","heads","a","b","count","left","ways","time","way","moment","step"]:List Str).Nodup:=by decide +kernel
theorem lP:au ["n","ties","a","b","most","steps","heads","side","count","found"] ["n","ties","a","b","most"] (ah (top 1)):=fsc
theorem Ru:au ["thing"] ["thing"] (ah (top 15)):=fsc
theorem Rv:au ["thing","low","high"] ["thing","low","high"] (ah (top 16)):=fsc
theorem Rw:au ["thing"] ["thing"] (ah (top 17)):=fsc
theorem Nn:au ["n","thing"] ["n","thing"] (ah (top 18)):=fsc
theorem Np:au ["thing"] ["thing"] (ah (top 19)):=fsc
theorem Nq:au ["thing"] ["thing"] (ah (top 20)):=fsc
theorem Nr:au ["n","thing"] ["n","thing"] (ah (top 21)):=fsc
theorem Nt:au ["n","thing"] ["n","thing"] (ah (top 22)):=fsc
theorem Nu:au ["things"] ["things"] (ah (top 23)):=fsc
theorem Ic:(["things","at"]:List Str).Nodup:=by decide +kernel
theorem Nv:au ["n","thing"] ["n","thing"] (ah (top 24)):=fsc
theorem Ie:(["n","thing","place"]:List Str).Nodup:=by decide +kernel
theorem Nx:au ["k"] ["k"] (ah (top 25)):=fsc
theorem Ny:au ["record","side"] ["record","side"] (ah (top 27)):=fsc
theorem sY:(["record","side","moment","a","b"]:List Str).Nodup:=by decide +kernel
theorem Nz:au ["groups","a","b"] ["groups","a","b"] (ah (top 28)):=fsc
theorem Ig:(["groups","a","b","group"]:List Str).Nodup:=by decide +kernel
theorem fC:au ["record","a","b","way","ends","moment","first","second","place","used"] ["record","a","b","way"] (ah (top 29)):=fsc
theorem x_:au ["record","a","b","ways","used","way"] ["record","a","b","ways"] (ah (top 30)):=fsc
theorem Ih:(["record","a","b","ways","used","%5","way"]:List Str).Nodup:=by decide +kernel
theorem ya:au ["layers","a","b","at","groups"] ["layers","a","b"] (ah (top 33)):=fsc
theorem jh:au ["n","record","k","layers","numbers","moment","a","b","number"] ["n","record","k"] (ah (top 32)):=fsc
theorem Ii:(["n","record","k","layers","numbers","moment","a","b","number","layer"]:List Str).Nodup:=by decide +kernel
theorem NB:au ["n","thing"] ["n","thing"] (ah (top 36)):=fsc
theorem Ij:(["n","thing","tie"]:List Str).Nodup:=by decide +kernel
theorem Ik:(["n","thing","tie"]:List Str).Nodup:=by decide +kernel
theorem NC:au ["record","t"] ["record","t"] (ah (top 37)):=fsc
theorem Il:(["record","t","tie"]:List Str).Nodup:=by decide +kernel
theorem ND:au ["thing"] ["thing"] (ah (top 39)):=fsc
theorem EN:au ["thing"] ["thing"] (ah (top 40)):=fsc
theorem EO:au ["n","record","k","numbers"] ["n","record","k"] (ah (top 41)):=fsc
theorem zO:(["n","record","k","numbers","tie","number"]:List Str).Nodup:=by decide +kernel
theorem k8:au ["n","ties","k","sides","place","among","both"] ["n","ties","k"] (ah (top 44)):=fsc
theorem Im:(["n","ties","k","sides","place","among","both","tie"]:List Str).Nodup:=by decide +kernel
theorem Io:(["n","ties","k","sides","place","among","both","side"]:List Str).Nodup:=by decide +kernel
theorem Ip:(["n","ties","k","sides","place","among","both","side"]:List Str).Nodup:=by decide +kernel
theorem Iq:(["n","ties","k","sides","place","among","both","side"]:List Str).Nodup:=by decide +kernel
theorem sZ:au ["net","t","ties","cuts"] ["net","t"] (ah (top 43)):=fsc
theorem Ir:(["net","t","ties","cuts","side"]:List Str).Nodup:=by decide +kernel
theorem NF:au ["n","ties","count"] ["n","ties","count"] (ah (top 46)):=fsc
theorem Iu:(["n","ties","count","place"]:List Str).Nodup:=by decide +kernel
theorem pG:au ["net","t","cuts","ties"] ["net","t"] (ah (top 45)):=fsc
theorem NG:au ["net","side","count"] ["net","side","count"] (ah (top 48)):=fsc
theorem NH:au ["n","ties","count","shows"] ["n","ties","count","shows"] (ah (top 49)):=fsc
theorem zP:(["n","ties","count","shows","at","ways"]:List Str).Nodup:=by decide +kernel
theorem s_:au ["net","t","told","ties","count"] ["net","t","told"] (ah (top 47)):=fsc
theorem fD:au ["script","k","cell","number","found","turn"] ["script","k"] (ah (top 51)):=fsc
theorem ER:au ["pool","many","digit"] ["pool","many"] (ah (top 52)):=fsc
theorem NI:au ["pool"] ["pool"] (ah (top 53)):=fsc
theorem cG:au ["pool","n","most","many","kind","step","times","way","moment","found","k","one","other"] ["pool","n","most"] (ah (top 54)):=fsc
theorem NJ:au ["record","t"] ["record","t"] (ah (top 56)):=fsc
theorem Iv:(["record","t","tie"]:List Str).Nodup:=by decide +kernel
theorem NK:au ["ties","side"] ["ties","side"] (ah (top 59)):=fsc
theorem Iw:(["ties","side","tie"]:List Str).Nodup:=by decide +kernel
theorem tu:au ["n","found","place"] ["n"] (ah (top 63)):=fsc
theorem Iz:(["n","found","place","side"]:List Str).Nodup:=by decide +kernel
theorem ji:au ["pool","net","n","k","ties","some"] ["pool","net"] (ah (top 66)):=fsc
theorem tw:au ["n","k","ties","found","side","moments"] ["n","k","ties"] (ah (top 67)):=fsc
theorem tE:(["n","k","ties","found","%4","%5","many","side","moments"]:List Str).Nodup:=by decide +kernel
theorem ES:au ["way","thing","e"] ["way","thing"] (ah (top 68)):=fsc
theorem d_:au ["script","at","pool","n","k","record","net","t","way"] ["script"] (ah (top 69)):=fsc
theorem IA:(["script","at","pool","n","k","record","net","t","way","tie"]:List Str).Nodup:=by decide +kernel
theorem IB:(["script","at","pool","n","k","record","net","t","way","tie"]:List Str).Nodup:=by decide +kernel
variable(T:Txt mg K base xR xS xT xU xV xW xX xY xZ x6 nR nS nT nU nV nW nX nY nZ n5 n6 n8 n9 n_ oj ou oz lM oE oF gW oG gX oH oJ lN oK oM oN oO oQ oR oS oU oV oW oX bV aH cZ c9 bB aA aF oY oZ o6 o7 o8 o9 o_ pe pq pA iC iD iE iF iG iH iI iJ iK iM iN iO iP iQ iR iU iV gh iW iX gj iY kY iZ i0 gk i6 i7 i8 i9 i_ ja jb jc jd je kZ jf)
include T
theorem Rx :
  aK P' w K mg base CX0 1 xR oY ["n","ties"] (spD Qv):=
 okQ T.Rh vE fun _ _ _ _ _ _ hr=>(My 2 ["n","ties","steps","moment","a","b"] ["place"] vE.nd (c_n 6 Nh rfl rfl) (Av rfl T.cj (aa (d_v 0) af)) (Qe T6 rfl (i_S (d_v 1)) (g_t rfl (aO 3 vE.nd (aO 4 vE.nd (aO 5 vE.nd dY))))
  (Jq (Sk (mZ hr (d_v 4) (d_v 5)) (Mx (Jr (d_v 4) (aS (aa (d_v 3) (aa (d_v 5) af))))
  (Jq (Jr (d_v 5) (aS (aa (d_v 3) (aa (d_v 4) af)))))) Qc)))
  (aq (s_r (d_v 2))))
theorem Ry :
  aK P' w K mg base CX0 1 xS oZ ["steps","heads"] (spD Qw):=
 okQ T.Ri Rq fun _ _ _ _ _ _ hr=>(aq (s_r (cL 0 ["steps","heads"] ["row"] (c_n 2 Ni rfl rfl) (d_v 0) (fun _ _ _ _ _=>bJ) (fun _ _ _ _ _=>(cL 2 ["steps","heads","row"] ["step"] (c_n 3 Nj rfl rfl) (d_v 2) (fun _ _ _ _ _=>dZ (mZ hr (CG hr (d_v 1) (aL (d_v 3) d_i)) (aL (d_v 3) d_i))) (fun _ _ _ _ _=>(d_v 3)))))))
theorem Rz :
  aK P' w K mg base CX0 1 xT o6 ["steps","heads"] (spD Qy):=
 okQ T.Rj Rt fun _ _ _ _ _ _ hr=>(aq (s_r (cL 0 ["steps","heads"] ["row"] (c_n 2 Nk rfl rfl) (d_v 0) (fun _ _ _ _ _=>bJ) (fun _ _ _ _ _=>(cL 2 ["steps","heads","row"] ["step"] (c_n 3 Nl rfl rfl) (d_v 2) (fun _ _ _ _ _=>dZ (lT hr (CG hr (d_v 1) (aL (d_v 3) d_i)) (aL (d_v 3) d_i))) (fun _ _ _ _ _=>(d_v 3)))))))
theorem Kn :
  aK P' w K mg base CX0 1 xU o7 ["steps","a"] (spD MQ):=
 okQ T.M8 vF fun _ _ _ _ _ _ hr=>(ai (s_a 2 vF.nd (Sa (d_v 1) (aX af)))
  (ai (s_a 3 vF.nd (aX (aa (d_v 1) af)))
  (ai (Pd 100 T6 (Sd (d_v 3))
  (ai (s_a 4 vF.nd (GY 3 d_i))
  (aq (cX T6 rfl (i_S (aL (d_v 0) (d_v 4))) (g_n 5 vF.nd)
  (aq (cI (CF hr (aL (d_v 5) d_i) (d_v 2)) (ai (rX 2 hr (aL (d_v 5) d_i) (bE (CC hr (d_v 2) (d_v 4)) (aX (aa (d_v 5) af))))
  (aq (uo 3 (aL (d_v 5) d_i)))) bP))))))
  (aq (s_r (d_v 2))))))
theorem RA :
  aK P' w K mg base CX0 1 xV o8 ["heads","way"] (spM QC):=by
 refine T.Rk.ok EM (fun vs H Q E h=>gx h) (fun cdv A outer s H vs Q E hr h=>?_);exact ⟨_,(aq (cX T6 rfl (i_S (d_v 1)) (g_t rfl (aO 2 EM.nd (aO 3 EM.nd dY)))
  (aq (cI (CD hr (d_v 2) (d_v 0)) (aq (s_e (C8 0 (d_v 2)))) (aq (rX 0 hr (d_v 2) (d_v 3))))))),uy (n:=2) (m:=2) rfl h⟩
theorem RB :
  aK P' w K mg base CX0 2 xW o9 ["steps","heads","a","b","count"] (spD QF):=
 okQ T.Rl rj fun _ _ _ _ _ _ hr=>(ai (s_a 5 rj.nd (MB rfl T.M7 (aa (d_v 1) af)))
  (ai (s_a 6 rj.nd (aX af))
  (ai (cX T6 rfl (Av rfl T.cj (aa (d_v 4) af)) (g_n 7 rj.nd)
  (ai (LJ 8 ["steps","heads","a","b","count","left","ways","time","way","moment"] ["step"] rj.nd (c_n 10 Nm rfl rfl) (i_S (CC hr (aE (Kn T) (Br.hm hr) rfl T.QT T.M8.kp T.Ib (aa (ny (Rz T) (Br.hm hr) rfl T.SV T.Rj.kp T.M9 (aa (d_v 0) (aa (d_v 5) af))) (aa (d_v 2) af))) (d_v 3))) (fun _ _ _ _ _=>bJ) (fun _ _ _ _ _=>(aL (d_v 10) d_i)))
  (ai (cX T6 rfl (i_S (d_v 8)) (g_n 9 rj.nd)
  (aq (s_e (C8 5 (d_v 9)))))
  (aq (uo 6 (d_v 8))))))
  (aq (s_r (d_v 6))))))
theorem RC :
  aK P' w K mg base CX0 3 xX o_ ["n","ties","a","b","most"] (spD QH):=
 okQ T.Rm lP fun _ _ _ _ _ _ hr=>(ai (s_a 5 lP.nd (aE (Rx T) (Br.hm hr) rfl T.SR T.Rh.kp T.M_ (aa (d_v 0) (aa (d_v 1) af))))
  (ai (s_a 6 lP.nd LZ)
  (ai (s_a 7 lP.nd d_n)
  (ai (s_a 8 lP.nd d_i)
  (ai (Pd 100 T6 (t_w (w_and (Gs (d_v 8) (d_v 4)) (LC (PL (d_v 7) d_n))))
  (ai (s_a 9 lP.nd (aE (Kn T) (Br.hm hr) rfl T.QT T.M8.kp T.Ib (aa (ny (Ry T) (Br.hm hr) rfl T.SS T.Ri.kp T.Na (aa (d_v 5) (aa (d_v 6) af))) (aa (d_v 2) af))))
  (aq (cI (CD hr (d_v 3) (d_v 9)) (ai (s_e (bW (RA T) (Br.hm hr) rfl T.SW T.Rk.kp T.Nb (aa (d_v 6) (aa (CC hr (d_v 9) (d_v 3)) af))))
  (aq (s_a 8 lP.nd (bE (d_v 8) d_i)))) (aq (s_a 7 lP.nd (yJ rfl T.kh (aa (Hg rfl rfl T.pD (aa (d_v 9) af)) af))))))))
  (aq (s_r (aS (aa (ny (RB T) (Br.hm hr) rfl T.SX T.Rl.kp T.Nc (@aa _ _ _ _ _ (d_v 5) (@aa _ _ _ _ _ (d_v 6) (@aa _ _ _ _ _ (d_v 2) (@aa _ _ _ _ _ (d_v 3) (@aa _ _ _ _ _ (d_v 8) af rfl) rfl) rfl) rfl) rfl)) (aa (d_v 7) af))))))))))
theorem RD :
  aK P' w K mg base CX0 1 xY pe ["thing"] (spD Dz):=
 okQ T.Rn Ru fun _ _ _ _ _ _ hr=>(aq (s_r (dJ (qw Gx (by rfl) rfl T.Ea rfl T.bq (d_v 0)) (fU (Pc (qw Ce (by rfl) rfl T.M6 rfl T.bq (d_v 0)))))))
theorem zQ :
  aK P' w K mg base CX0 2 xZ pq ["thing","low","high"] (spD kR):=
 okQ T.Eh Rv fun _ _ _ _ _ _ hr=>(aq (s_r (dJ (aE (RD T) (Br.hm hr) rfl T.S0 T.Rn.kp T.Nd (aa (d_v 0) af)) (fU (Gz yq yH yq yH (d_v 1) (d_v 0) (d_v 2))))))
theorem RG :
  aK P' w K mg base CX0 3 x6 pA ["thing"] (spD xN):=
 okQ T.Ro Rw fun _ _ _ _ _ _ hr=>(aq (s_r (aE (zQ T) (Br.hm hr) rfl T.Ia T.Eh.kp T.Bg (aa (d_v 0) (aa d_i (aa d_i af))))))
theorem yb :
  aK P' w K mg base CX0 3 nR iC ["n","thing"] (spD gS):=
 okQ T.zA Nn fun _ _ _ _ _ _ hr=>(aq (s_r (aE (zQ T) (Br.hm hr) rfl T.Ia T.Eh.kp T.Bg (aa (d_v 1) (aa d_i (aa (mY (d_v 0) d_i) af))))))
theorem ET :
  aK P' w K mg base CX0 3 nS iD ["thing"] (spD f_):=
 okQ T.Ei Np fun _ _ _ _ _ _ hr=>(aq (s_r (aE (zQ T) (Br.hm hr) rfl T.Ia T.Eh.kp T.Bg (aa (d_v 0) (aa d_i (aa d_i af))))))
theorem NL :
  aK P' w K mg base CX0 3 nT iE ["thing"] (spD lI):=
 okQ T.JS Nq fun _ _ _ _ _ _ hr=>(aq (s_r (aE (zQ T) (Br.hm hr) rfl T.Ia T.Eh.kp T.Bg (aa (d_v 0) (aa d_i (aa (jP d_i d_i) af))))))
theorem NN :
  aK P' w K mg base CX0 4 nU iF ["n","thing"] (spD j4):=
 okQ T.JT Nr fun _ _ _ _ _ _ hr=>(ai (cI (t_w (w_or (gP (gQ (qw kit_tuple (by rfl) rfl T.kh rfl T.bq (d_v 1)))) (um (mZ hr (cD rfl T.cC (aa (d_v 1) af)) d_i)))) (aq (s_r d_b)) bP)
  (aq (s_r (dJ (aE (NL T) (Br.hm hr) rfl T.QU T.JS.kp T.Ej (aa (aL (d_v 1) d_i) af)) (dJ (aE (yb T) (Br.hm hr) rfl T.Ec T.zA.kp T.vv (aa (d_v 0) (aa (aL (d_v 1) d_i) af))) (fU (aE (yb T) (Br.hm hr) rfl T.Ec T.zA.kp T.vv (aa (d_v 0) (aa (aL (d_v 1) d_i) af)))))))))
theorem NO :
  aK P' w K mg base CX0 5 nV iG ["n","thing"] (spD nD):=
 okQ T.JU Nt fun _ _ _ _ _ _ hr=>(aq (s_r (dJ (aE (NN T) (Br.hm hr) rfl T.QV T.JT.kp T.Ek (aa (d_v 0) (aa (d_v 1) af))) (fU (R4 (aL (d_v 1) d_i) (aL (d_v 1) d_i))))))
theorem EU :
  aK P' w K mg base CX0 1 nW iH ["things"] (spD uW):=
 okQ T.El Nu fun _ _ _ _ _ _ hr=>(aq (s_r (uq rfl rfl T.vq (aa (Az ["things"] ["at"] (c_n 1 Ic rfl rfl) (Gw rfl T.cj (aa d_i (aa (cD rfl T.cC (aa (d_v 0) af)) af))) (fun _ _ _ _ _=>bJ) (fun _ _ _ _ _=>(Pa (aL (d_v 0) (mY (d_v 1) d_i)) (aL (d_v 0) (d_v 1))))) af))))
theorem NP :
  aK P' w K mg base CX0 4 nX iI ["n","thing"] (spD JD):=
 okQ T.JV Nv fun _ _ _ _ _ _ hr=>(aq (s_r (dJ (qw kit_tuple (by rfl) rfl T.kh rfl T.bq (d_v 1)) (dJ (uq rfl rfl T.vq (aa (cL 1 ["n","thing"] ["place"] (c_n 2 Ie rfl rfl) (d_v 1) (fun _ _ _ _ _=>bJ) (fun _ _ _ _ _=>(aE (yb T) (Br.hm hr) rfl T.Ec T.zA.kp T.vv (aa (d_v 0) (aa (d_v 2) af))))) af)) (fU (aE (EU T) (Br.hm hr) rfl T.JL T.El.kp T.zB (aa (d_v 1) af)))))))
theorem NQ :
  aK P' w K mg base CX0 4 nY iJ ["k"] (spD zf):=
 okQ T.JX Nx fun _ _ _ _ _ _ hr=>(aq (cI (gP (gQ (aE (ET T) (Br.hm hr) rfl T.JK T.Ei.kp T.zC (aa (d_v 0) af)))) (aq yK) bP))
theorem yc :
  aK P' w K mg base CX0 1 nZ iK ["record","side"] (spD qN):=
 okQ T.zD Ny fun _ _ _ _ _ _ hr=>(aq (s_r (cL 0 ["record","side"] ["moment","a","b"] (c_t rfl (fun _ _ _ _ _=>(aO 2 sY (aO 3 sY (aO 4 sY dY))))) (d_v 0) (fun _ _ _ _ _=>dZ (mZ hr (Af hr (d_v 3) (d_v 1)) (Af hr (d_v 4) (d_v 1)))) (fun _ _ _ _ _=>(d_v 2)))))
theorem NR :
  aK P' w K mg base CX0 1 n5 iM ["groups","a","b"] (spD zg):=
 okQ T.JY Nz fun _ _ _ _ _ _ hr=>(aq (s_r (cL 0 ["groups","a","b"] ["group"] (c_n 3 Ig rfl rfl) (d_v 0) (fun _ _ _ _ _=>bJ) (fun _ _ _ _ _=>(R6 (lT hr (d_v 3) (aL (d_v 0) (d_v 2))) (aL (d_v 0) (d_v 1)) (d_v 3))))))
theorem NT :
  aK P' w K mg base CX0 1 n6 iN ["record","a","b","way"] (spD JE):=
 okQ T.JZ fC fun _ _ _ _ _ _ hr=>(ai (s_a 4 fC.nd LZ)
  (ai (cX T6 rfl (i_S (d_v 0)) (g_t rfl (aO 5 fC.nd (aO 6 fC.nd (aO 7 fC.nd dY))))
  (aq (cI (mZ hr (d_v 6) (d_v 7)) (aq (rX 4 hr (d_v 5) (aS (aa (d_v 6) (aa (d_v 7) af))))) bP)))
  (ai (s_a 8 fC.nd (d_v 1))
  (ai (s_a 9 fC.nd LZ)
  (ai (cX T6 rfl (i_S (d_v 3)) (g_n 5 fC.nd)
  (ai (cI (t_w (w_or (CD hr (d_v 5) (d_v 9)) (w_or (CF hr (d_v 5) (d_v 4)) (um (Pb hr (d_v 8) (CC hr (d_v 4) (d_v 5))))))) (aq (s_r d_b)) bP)
  (ai (rX 9 hr (d_v 5) d_b)
  (aq (s_a 8 fC.nd (mY (L5 rfl rfl T.QO (aa (CC hr (d_v 4) (d_v 5)) af)) (d_v 8)))))))
  (aq (s_r (Au hr (d_v 8) (d_v 2)))))))))
theorem NU :
  aK P' w K mg base CX0 2 n8 iO ["record","a","b","ways"] (spD JF):=
 okQ T.J0 x_ fun _ _ _ _ _ _ hr=>(ai (s_a 4 x_.nd (aX af))
  (ai (cX T6 rfl (i_S (d_v 3)) (g_n 5 x_.nd)
  (aq (PN 4 (d_v 5))))
  (aq (s_r (dJ (Au hr (CI rfl rfl T.cC rfl T.QN (d_v 4)) (cD rfl T.cC (aa (d_v 4) af))) (fU (uq rfl rfl T.vq (aa (cL 3 ["record","a","b","ways","used","%5"] ["way"] (c_n 6 Ih rfl rfl) (d_v 3) (fun _ _ _ _ _=>bJ) (fun _ _ _ _ _=>(aE (NT T) (Br.hm hr) rfl T.Q0 T.JZ.kp T.Em (aa (d_v 0) (aa (d_v 1) (aa (d_v 2) (aa (d_v 6) af))))))) af))))))))
theorem NV :
  aK P' w K mg base CX0 1 n9 iP ["layers","a","b"] (spD uX):=
 okQ T.J2 ya fun _ _ _ _ _ _ hr=>(ai (cX T6 rfl (Pp rfl T.lO (d_v 0)) (g_t rfl (aO 3 ya.nd (aO 4 ya.nd dY)))
  (aq (cI (mZ hr (aL (d_v 4) (d_v 1)) (aL (d_v 4) (d_v 2))) (aq (s_r (bE (d_v 3) d_i))) bP)))
  (aq (s_r d_i)))
theorem EV :
  aK P' w K mg base CX0 5 n_ iQ ["n","record","k"] (spD qO):=
 okQ T.Es jh fun _ _ _ _ _ _ hr=>(ai (s_e (aE (NQ T) (Br.hm hr) rfl T.QY T.JX.kp T.Eo (aa (d_v 2) af)))
  (ai (LJ 3 ["n","record","k","layers","numbers","moment","a","b","number"] ["layer"] jh.nd (c_n 9 Ii rfl rfl) (Av rfl T.cj (aa (d_v 2) af)) (fun _ _ _ _ _=>bJ) (fun _ _ _ _ _=>(LP rfl rfl T.sW rfl T.cj (aa (d_v 0) af))))
  (ai (s_a 4 jh.nd (aX af))
  (ai (cX T6 rfl (Po rfl T.pC (d_v 1)) (g_t rfl (aO 5 jh.nd (aO 6 jh.nd (aO 7 jh.nd dY))))
  (ai (s_a 8 jh.nd (aE (NV T) (Br.hm hr) rfl T.Q3 T.J2.kp T.Er (aa (d_v 3) (aa (d_v 6) (aa (d_v 7) af)))))
  (ai (cI (Gu (d_v 8) d_i) (aq (I0 3 (mY (d_v 8) d_i) (aE (NR T) (Br.hm hr) rfl T.QZ T.JY.kp T.Ep (aa (aL (d_v 3) (mY (d_v 8) d_i)) (aa (d_v 6) (aa (d_v 7) af)))))) bP)
  (aq (uo 4 (d_v 8))))))
  (aq (s_r (GF rfl rfl T.sW rfl T.pC (d_v 4))))))))
theorem NW :
  aK P' w K mg base CX0 6 oj iR ["n","thing"] (spD gb):=by
 refine T.J3.ok NB (fun vs H Q E h=>ic h) (fun cdv A outer s H vs Q E hr h=>?_);obtain⟨kj,vG⟩:=T.pF;exact ⟨_,(ai (cI (t_w (w_or (gP (gQ (aE (RG T) (Br.hm hr) rfl T.S1 T.Ro.kp T.Nf (aa (d_v 0) af)))) (w_or (gP (gQ (qw Cf (by rfl) rfl T.sW rfl T.bq (d_v 1)))) (um (Gu (cD rfl T.cC (aa (d_v 1) af)) (d_g rfl vG)))))) (aq (s_r d_b)) bP)
  (ai (cI (gP (gQ (uq rfl rfl T.vq (aa (cL 1 ["n","thing"] ["tie"] (c_n 2 Ij rfl rfl) (d_v 1) (fun _ _ _ _ _=>bJ) (fun _ _ _ _ _=>(aE (NO T) (Br.hm hr) rfl T.QW T.JU.kp T.Et (aa (d_v 0) (aa (d_v 2) af))))) af)))) (aq (s_r d_b)) bP)
  (aq (s_r (aE (EU T) (Br.hm hr) rfl T.JL T.El.kp T.zB (aa (cL 1 ["n","thing"] ["tie"] (c_n 2 Ik rfl rfl) (d_v 1) (fun _ _ _ _ _=>bJ) (fun _ _ _ _ _=>(aL (d_v 2) d_i))) af)))))),Aq (n:=2) (m:=0) rfl h⟩
theorem yd :
  aK P' w K mg base CX0 1 ou iU ["record","t"] (spD lJ):=
 okQ T.zF NC fun _ _ _ _ _ _ hr=>(aq (s_r (cL 0 ["record","t"] ["tie"] (c_n 2 Il rfl rfl) (d_v 0) (fun _ _ _ _ _=>dZ (LA (aL (d_v 2) d_i) (d_v 1))) (fun _ _ _ _ _=>(d_v 2)))))
theorem EW :
  aK P' w K mg base CX0 7 oz iV ["thing"] (spD bx):=
 okQ T.Ew ND fun _ _ _ _ _ _ hr=>(ai (cI (t_w (w_or (gP (gQ (qw kit_tuple (by rfl) rfl T.kh rfl T.bq (d_v 0)))) (um (mZ hr (cD rfl T.cC (aa (d_v 0) af)) d_i)))) (aq (s_r d_b)) bP)
  (ai (cI (t_w (w_or (gP (gQ (aE (ET T) (Br.hm hr) rfl T.JK T.Ei.kp T.zC (aa (aL (d_v 0) d_i) af)))) (um (gP (gQ (aE (NW T) (Br.hm hr) rfl T.Q4 T.J3.kp T.Eu (aa (aL (d_v 0) d_i) (aa (aL (d_v 0) d_i) af)))))))) (aq (s_r d_b)) bP)
  (aq (s_r (IZ hr d_i (aE (EV T) (Br.hm hr) rfl T.JM T.Es.kp T.zG (aa (aL (d_v 0) d_i) (aa (aL (d_v 0) d_i) (aa (aL (d_v 0) d_i) af)))))))))
theorem EX :
  aK P' w K mg base CX0 8 lM gh ["thing"] (spD qP):=
 okQ T.qY EN fun _ _ _ _ _ _ hr=>(aq (cI (gP (gQ (aE (EW T) (Br.hm hr) rfl T.JN T.Ew.kp T.zH (aa (d_v 0) af)))) (aq yK) bP))
theorem cM :
  aK P' w K mg base (CXE P' w aH) 8 lM gh ["thing"] (spX aH bz):=by
 exact okY (n:=1) (m:=0) T.qY EN rfl rfl (fun cdv A outer s H E hr=>(gR (MG (gP (gQ (aE (EW T) (Br.hm hr) rfl T.JN T.Ew.kp T.zH (aa (d_v 0) af)))) (gR (y_x (x_raise T.Bf PySem.F.excBase_ValueError rfl))) Su)))
theorem NX :
  aK P' w K mg base CX0 6 oE iW ["n","record","k"] (spD zh):=
 okQ T.J4 EO fun _ _ _ _ _ _ hr=>(ai (s_a 3 EO.nd (aE (EV T) (Br.hm hr) rfl T.JM T.Es.kp T.zG (aa (d_v 0) (aa (d_v 1) (aa (d_v 2) af)))))
  (aq (s_r (aS (aa (d_v 0) (aa (d_v 2) (aa (Az ["n","record","k","numbers"] ["tie","number"] (c_t rfl (fun _ _ _ _ _=>(aO 4 zO (aO 5 zO dY)))) (Pr rfl T.QS (aa (d_v 1) (aa (d_v 3) af))) (fun _ _ _ _ _=>dZ (Gu (d_v 5) d_i)) (fun _ _ _ _ _=>(d_v 4))) af)))))))
theorem NY :
  aK P' w K mg base CX0 2 oF iX ["n","ties","k"] (spD uY):=
 okQ T.J_ k8 fun _ _ _ _ _ _ hr=>(ai (s_a 3 k8.nd (aX (aa (aS af) af)))
  (ai (cX T6 rfl (Gw rfl T.cj (aa d_i (aa (d_v 0) af))) (g_n 4 k8.nd)
  (ai (s_a 5 k8.nd (cL 1 ["n","ties","k","sides","place","among","both"] ["tie"] (c_n 7 Im rfl rfl) (d_v 1) (fun _ _ _ _ _=>dZ (R5 (aL (d_v 7) d_i) (d_v 4))) (fun _ _ _ _ _=>(d_v 7))))
  (ai (s_a 6 k8.nd (bE (d_v 3) (cL 3 ["n","ties","k","sides","place","among","both"] ["side"] (c_n 7 Io rfl rfl) (d_v 3) (fun _ _ _ _ _=>bJ) (fun _ _ _ _ _=>(xC (d_v 7) (aS (aa (d_v 4) af)))))))
  (aq (Pq 3 6 ["n","ties","k","sides","place","among","both"] ["side"] k8.nd (c_n 7 Ip rfl rfl) (d_v 6) (fun _ _ _ _ _=>dZ (Gs (cD rfl T.cC (aa (aE (yc T) (Br.hm hr) rfl T.Ed T.zD.kp T.vz (aa (d_v 5) (aa (d_v 7) af))) af)) (d_v 2))) (fun _ _ _ _ _=>(d_v 7)))))))
  (aq (s_r (cL 3 ["n","ties","k","sides","place","among","both"] ["side"] (c_n 7 Iq rfl rfl) (d_v 3) (fun _ _ _ _ _=>dZ (Gu (cD rfl T.cC (aa (d_v 7) af)) d_i)) (fun _ _ _ _ _=>(d_v 7)))))))
theorem ye :
  aK P' w K mg base CX0 9 gW gj ["net","t"] (spT (tbq aA aF) nE):=by
 refine T.ki.okT sZ (fun vs H Q E h=>ic h) (fun cdv A outer s H vs Q E hc hr ht h=>?_);exact ⟨_,(ai (s_e (aE (EX T) (Br.hm hr) rfl T.zz T.qY.kp T.qZ (aa (d_v 0) af)))
  (ai (s_a 2 sZ.nd (aE (yd T) (Br.hm hr) rfl T.Ef T.zF.kp T.vA (aa (aL (d_v 0) d_i) (aa (d_v 1) af))))
  (ai (LJ 3 ["net","t","ties","cuts"] ["side"] sZ.nd (c_n 4 Ir rfl rfl) (i_S (aE (NY T) (Br.hm hr) rfl T.Q6 T.J_.kp T.Ex (aa (aL (d_v 0) d_i) (aa (d_v 2) (aa (aL (d_v 0) d_i) af))))) (fun _ _ _ _ _=>bJ) (fun _ _ _ _ _=>(aS (aa (d_v 4) (aa (aE (yc T) (Br.hm hr) rfl T.Ed T.zD.kp T.vz (aa (d_v 2) (aa (d_v 4) af))) af)))))
  (aq (s_r (Hy (k:=1) (Br.hm hr) rfl T.pD (T.p7.tab (hc.trans T.dh)) (ht _ (.head _)) fsc (fun _ _ _ _=>rfl) (aa (d_v 3) af) (fun _ _ _ _ _ _ _=>(aS (aa (cD rfl T.cC (aa (aL (d_v 0) d_i) af)) (aa (aL (d_v 0) d_i) af)))))))))),Aq (n:=2) (m:=2) rfl h⟩
theorem c_ :
  aK P' w K mg base (CXE P' w aH) 9 gW gj ["net","t"] (spX aH bD):=by
 exact Qk (n:=2) (m:=2) T.ki sZ rfl rfl (fun cdv A outer s H E hr=>(gR (y_x (nt (x_call (cM T) (Br.hm hr) rfl T.zz T.qY.kp T.qZ CS (aa (d_v 0) af))))))
theorem EY :
  aK P' w K mg base CX0 4 oG iY ["n","ties","count"] (spD DH):=
 okQ T.Ey NF fun _ _ _ _ _ _ hr=>(aq (s_r (Az ["n","ties","count"] ["place"] (c_n 3 Iu rfl rfl) (Gw rfl T.cj (aa d_i (aa (d_v 0) af))) (fun _ _ _ _ _=>bJ) (fun _ _ _ _ _=>(aL (aE (RC T) (Br.hm hr) rfl T.SY T.Rm.kp T.Ng (@aa _ _ _ _ _ (d_v 0) (@aa _ _ _ _ _ (d_v 1) (@aa _ _ _ _ _ d_i (@aa _ _ _ _ _ (d_v 3) (@aa _ _ _ _ _ (d_v 2) af rfl) rfl) rfl) rfl) rfl)) d_i)))))
theorem NZ :
  aK P' w K mg base CX0 10 gX kY ["net","t"] (spT (tbq aA aF) DJ):=by
 refine T.q_.okT pG (fun vs H Q E h=>ic h) (fun cdv A outer s H vs Q E hc hr ht h=>?_);exact ⟨_,(ai (s_a 2 pG.nd (l_ ht (ye T) (Br.hm hr) rfl T.vt T.ki.kp T.vC (aa (d_v 0) (aa (d_v 1) af))))
  (ai (cI (lT hr (aL (d_v 0) d_i) d_i) (aq (s_r (aS (aa d_s af)))) bP)
  (ai (s_a 3 pG.nd (aE (yd T) (Br.hm hr) rfl T.Ef T.zF.kp T.vA (aa (aL (d_v 0) d_i) (aa (d_v 1) af))))
  (ai (cI (lT hr (cD rfl T.cC (aa (d_v 2) af)) d_i) (aq (s_r (aS (aa d_s (aa (aE (EY T) (Br.hm hr) rfl T.JO T.Ey.kp T.zI (aa (aL (d_v 0) d_i) (aa (d_v 3) (aa (aL (d_v 0) d_i) af)))) af))))) bP)
  (aq (s_r (aS (aa d_s (aa (aL (aL (d_v 2) d_i) d_i) (aa (aE (EY T) (Br.hm hr) rfl T.JO T.Ey.kp T.zI (aa (aL (d_v 0) d_i) (aa (d_v 3) (aa (cD rfl T.cC (aa (aL (aL (d_v 2) d_i) d_i) af)) af)))) af)))))))))),Aq (n:=2) (m:=2) rfl h⟩
theorem gI :
  aK P' w K mg base (CXE P' w aH) 10 gX kY ["net","t"] (spX aH cu):=by
 exact Qk (n:=2) (m:=2) T.q_ pG rfl rfl (fun cdv A outer s H E hr=>(gR (y_x (x_a 2 pG.nd (x_call (c_ T) (Br.hm hr) rfl T.vt T.ki.kp T.vC CS (aa (d_v 0) (aa (d_v 1) af)))))))
theorem N1 :
  aK P' w K mg base CX0 5 oH iZ ["net","side","count"] (spD JG):=
 okQ T.Ka NG fun _ _ _ _ _ _ hr=>(aq (s_r (dJ (aE (NP T) (Br.hm hr) rfl T.QX T.JV.kp T.Ez (aa (aL (d_v 0) d_i) (aa (d_v 1) af))) (dJ (Lz (cD rfl T.cC (aa (d_v 1) af)) d_i) (dJ (IZ hr d_i (d_v 1)) (fU (Pa (d_v 2) (aL (d_v 0) d_i))))))))
theorem EZ :
  aK P' w K mg base CX0 3 oJ i0 ["n","ties","count","shows"] (spD DK):=
 okQ T.EB NH fun _ _ _ _ _ _ hr=>(ai (cI (mZ hr (cD rfl T.cC (aa (d_v 3) af)) (mY (d_v 0) d_i)) (aq (s_r d_b)) bP)
  (aq (s_r (uq rfl rfl T.vq (aa (Az ["n","ties","count","shows"] ["at","ways"] (c_t rfl (fun _ _ _ _ _=>(aO 4 zP (aO 5 zP dY)))) (Pp rfl T.lO (d_v 3)) (fun _ _ _ _ _=>bJ) (fun _ _ _ _ _=>(dJ (Au hr (cD rfl T.cC (aa (d_v 5) af)) (d_v 2)) (fU (aE (NU T) (Br.hm hr) rfl T.Q2 T.J0.kp T.EA (aa (d_v 1) (aa d_i (aa (bE (d_v 4) d_i) (aa (d_v 5) af))))))))) af)))))
theorem N2 :
  aK P' w K mg base CX0 9 lN gk ["net","t","told"] (spD DL):=
 okQ T.zK s_ fun _ _ _ _ _ _ hr=>(ai (s_e (aE (EX T) (Br.hm hr) rfl T.zz T.qY.kp T.qZ (aa (d_v 0) af)))
  (ai (s_a 3 s_.nd (aE (yd T) (Br.hm hr) rfl T.Ef T.zF.kp T.vA (aa (aL (d_v 0) d_i) (aa (d_v 1) af))))
  (ai (cI (lT hr (aL (d_v 2) d_i) d_s) (ai (s_a 4 s_.nd (cD rfl T.cC (aa (aE (yc T) (Br.hm hr) rfl T.Ed T.zD.kp T.vz (aa (d_v 3) (aa (aL (d_v 2) d_i) af))) af)))
  (aq (s_r (dJ (aE (N1 T) (Br.hm hr) rfl T.Q7 T.Ka.kp T.EC (aa (d_v 0) (aa (aL (d_v 2) d_i) (aa (d_v 4) af)))) (fU (aE (EZ T) (Br.hm hr) rfl T.JQ T.EB.kp T.zJ (aa (aL (d_v 0) d_i) (aa (d_v 3) (aa (d_v 4) (aa (aL (d_v 2) d_i) af)))))))))) bP)
  (ai (cI (lT hr (aL (d_v 2) d_i) d_s) (aq (s_r (dJ (Lz (aL (d_v 0) d_i) d_i) (fU (aE (EZ T) (Br.hm hr) rfl T.JQ T.EB.kp T.zJ (aa (aL (d_v 0) d_i) (aa (d_v 3) (aa (aL (d_v 0) d_i) (aa (aL (d_v 2) d_i) af))))))))) bP)
  (aq (s_r (dJ (Au hr (d_v 2) (aS (aa d_s af))) (fU (Au hr (aL (d_v 0) d_i) d_i)))))))))
theorem fM :
  aK P' w K mg base (CXE P' w aH) 9 lN gk ["net","t","told"] (spX aH bU):=by
 exact okY (n:=3) (m:=2) T.zK s_ rfl rfl (fun cdv A outer s H E hr=>(gR (y_x (nt (x_call (cM T) (Br.hm hr) rfl T.zz T.qY.kp T.qZ CS (aa (d_v 0) af))))))
theorem yf :
  aK P' w K mg base CX0 1 oK i6 ["script","k"] (spD nF):=
 okQ T.zL fD fun _ _ _ _ _ _ hr=>(ai (s_a 2 fD.nd d_i)
  (ai (cI (Gs (d_v 1) (cD rfl T.cC (aa (d_v 0) af))) (aq (s_a 2 fD.nd (aL (d_v 0) (d_v 1)))) bP)
  (ai (cI (LA (d_v 2) (jP d_i d_i)) (aq (s_r (aX (aa (gO (d_v 2) (sF (sF (sF (sF (jP d_i d_i) (jP d_i d_i)) (jP d_i d_i)) (jP d_i d_i)) (jP d_i d_i))) af)))) bP)
  (ai (s_a 3 fD.nd (gO (bE (bE (bE (d_v 2) (gM (gM d_i (d_v 1)) (d_v 1))) (gM d_i (d_v 1))) d_i) d_i))
  (ai (s_a 4 fD.nd d_i)
  (ai (cX T6 rfl (Av rfl T.cj (aa d_i af)) (g_n 5 fD.nd)
  (ai (s_a 3 fD.nd (gO (bE (bE (gM (d_v 3) d_i) (gM d_i (d_v 5))) d_i) d_i))
  (ai (s_a 3 fD.nd (gO (gM (d_v 3) (d_v 3)) d_i))
  (aq (s_a 4 fD.nd (bE (gM (d_v 4) d_i) (gO (bE (gM (d_v 3) d_i) (d_v 1)) d_i)))))))
  (aq (s_r (aX (aa (d_v 4) af))))))))))
theorem ee :
  aK P' w K mg base CX0 1 oM i7 ["pool","many"] (spM dj):=by
 refine T.gm.ok ER (fun vs H Q E h=>gx h) (fun cdv A outer s H vs Q E hr h=>?_);exact ⟨_,(ai (s_a 2 ER.nd (gO (aL (d_v 0) d_i) (d_v 1)))
  (ai (I0 0 d_i (O9 (aL (d_v 0) d_i) (d_v 1)))
  (aq (s_r (d_v 2))))),uy (n:=2) (m:=1) rfl h⟩
theorem N3 :
  aK P' w K mg base CX0 2 oN i8 ["pool"] (spM uZ):=by
 refine T.Kc.ok NI (fun vs H Q E h=>gx h) (fun cdv A outer s H vs Q E hr h=>?_);exact⟨_,(aq (s_r (aL (aX (@aa _ _ _ _ _ d_i (@aa _ _ _ _ _ d_i (@aa _ _ _ _ _ d_i (@aa _ _ _ _ _ d_i (@aa _ _ _ _ _ d_i (@aa _ _ _ _ _ d_i (@aa _ _ _ _ _ d_i (@aa _ _ _ _ _ d_i af rfl) rfl) rfl) rfl) rfl) rfl) rfl) rfl)) (bW (ee T) (Br.hm hr) rfl T.gY T.gm.kp T.fK (aa (d_v 0) (aa d_i af)))))),uy (n:=1) (m:=0) rfl h⟩
theorem N4 :
  aK P' w K mg base CX0 2 oO i9 ["pool","n","most"] (spM u5):=by
 refine T.Kd.ok cG (fun vs H Q E h=>gx h) (fun cdv A outer s H vs Q E hr h=>?_);exact ⟨_,(ai (s_a 3 cG.nd (bW (ee T) (Br.hm hr) rfl T.gY T.gm.kp T.fK (aa (d_v 0) (aa (bE (d_v 2) d_i) af))))
  (ai (s_a 4 cG.nd (bW (ee T) (Br.hm hr) rfl T.gY T.gm.kp T.fK (aa (d_v 0) (aa d_i af))))
  (ai (s_a 5 cG.nd (aL (aX (aa d_i (aa d_i (aa (jP d_i d_i) (aa d_i af))))) (d_v 4)))
  (ai (s_a 6 cG.nd (aL (aX (aa d_i (aa (jP d_i d_i) af))) (I_ rfl T.Ea (aa (Au hr (d_v 4) d_i) af))))
  (ai (s_a 7 cG.nd (bW (ee T) (Br.hm hr) rfl T.gY T.gm.kp T.fK (aa (d_v 0) (aa d_i af))))
  (ai (s_a 8 cG.nd (gM (bW (ee T) (Br.hm hr) rfl T.gY T.gm.kp T.fK (aa (d_v 0) (aa (d_v 5) af))) (d_v 6)))
  (ai (s_a 9 cG.nd (aX af))
  (ai (cX T6 rfl (Av rfl T.cj (aa (d_v 3) af)) (g_n 10 cG.nd)
  (ai (s_a 11 cG.nd (bW (ee T) (Br.hm hr) rfl T.gY T.gm.kp T.fK (aa (d_v 0) (aa (d_v 1) af))))
  (ai (s_a 12 cG.nd (bW (ee T) (Br.hm hr) rfl T.gY T.gm.kp T.fK (aa (d_v 0) (aa (d_v 1) af))))
  (ai (cI (lT hr (d_v 7) d_i) (aq (s_a 12 cG.nd (gO (bE (d_v 11) d_i) (d_v 1)))) bP)
  (ai (cI (lT hr (d_v 7) d_i) (aq (s_a 12 cG.nd (gO (gO (bE (bE (d_v 11) (gO (d_v 12) d_i)) d_i) (w_ rfl rfl T.Eb (aa (d_v 1) (aa d_i af)))) (d_v 1)))) bP)
  (ai (uo 9 (aS (aa (d_v 8) (aa (w_ rfl rfl T.Eb (aa (d_v 11) (aa (d_v 12) af))) (aa (Cd rfl rfl T.JJ (aa (d_v 11) (aa (d_v 12) af))) af)))))
  (aq (s_a 8 cG.nd (bE (bE (d_v 8) d_i) (gM (bW (ee T) (Br.hm hr) rfl T.gY T.gm.kp T.fK (aa (d_v 0) (aa (d_v 5) af))) (d_v 6)))))))))))
  (aq (s_r (d_v 9))))))))))),uy (n:=3) (m:=10) rfl h⟩
theorem N5 :
  aK P' w K mg base CX0 1 oQ i_ ["record","t"] (spD u6):=
 okQ T.Ke NJ fun _ _ _ _ _ _ hr=>(aq (s_r (cL 0 ["record","t"] ["tie"] (c_n 2 Iv rfl rfl) (d_v 0) (fun _ _ _ _ _=>dZ (LA (aL (d_v 2) d_i) (d_v 1))) (fun _ _ _ _ _=>(d_v 2)))))
theorem N6 :
  aK P' w K mg base CX0 1 oR ja ["ties","side"] (spD zj):=
 okQ T.Kf NK fun _ _ _ _ _ _ hr=>(aq (s_r (cL 0 ["ties","side"] ["tie"] (c_n 2 Iw rfl rfl) (d_v 0) (fun _ _ _ _ _=>dZ (mZ hr (Af hr (aL (d_v 2) d_i) (d_v 1)) (Af hr (aL (d_v 2) d_i) (d_v 1)))) (fun _ _ _ _ _=>(aL (d_v 2) d_i)))))
theorem N7 :
  aK P' w K mg base CX0 1 oS jb ["n"] (spD zk):=
 okQ T.Kg tu fun _ _ _ _ _ _ hr=>(ai (s_a 1 tu.nd (aX (aa (aS af) af)))
  (ai (cX T6 rfl (Gw rfl T.cj (aa d_i (aa (d_v 0) af))) (g_n 2 tu.nd)
  (aq (s_a 1 tu.nd (bE (d_v 1) (cL 1 ["n","found","place"] ["side"] (c_n 3 Iz rfl rfl) (d_v 1) (fun _ _ _ _ _=>bJ) (fun _ _ _ _ _=>(xC (d_v 3) (aS (aa (d_v 2) af)))))))))
  (aq (s_r (Pg (d_v 1) (o_s d_i) o_n)))))
theorem N8 :
  aK P' w K mg base CX0 2 oU jc ["pool","net"] (spM u7):=by
 refine T.Kh.ok ji (fun vs H Q E h=>gx h) (fun cdv A outer s H vs Q E hr h=>?_);exact ⟨_,(ai (s_u rfl (aO 2 ji.nd (aO 3 ji.nd (aO 4 ji.nd dY))) (d_v 1))
  (@ai _ _ _ _ _ (@s_a _ _ _ _ 5 _ _ ji.nd (@aX _ _ _ _ (@aa _ _ _ _ _ d_n (@aa _ _ _ _ _ (aX af) (@aa _ _ _ _ _ (aS af) (@aa _ _ _ _ _ (LB rfl T.sW (aa (d_v 1) af)) (@aa _ _ _ _ _ (aS (aa (d_v 2) (aa (d_v 3) af))) (@aa _ _ _ _ _ (aS (aa (d_v 2) (aa (d_v 3) (aa (d_v 4) (aa d_i af))))) (@aa _ _ _ _ _ (aS (aa d_b (aa (d_v 3) (aa (aX af) af)))) (@aa _ _ _ _ _ (aS (aa (d_v 2) (aa d_b (aa (aX af) af)))) (@aa _ _ _ _ _ (aS (aa d_i (aa (d_v 3) (aa (aX af) af)))) (@aa _ _ _ _ _ (aS (aa (d_v 2) (aa d_i (aa (aX af) af)))) af rfl) rfl) rfl) rfl) rfl) rfl) rfl) rfl) rfl) rfl)) rfl (by trivial) rfl (by trivial))
  (ai (s_a 5 ji.nd (bE (d_v 5) (aX (@aa _ _ _ _ _ (aS (aa d_i (aa (d_v 3) (aa (aX af) af)))) (@aa _ _ _ _ _ (aS (aa (d_v 2) (aa d_i (aa (aX af) af)))) (@aa _ _ _ _ _ (aS (aa (d_v 2) (aa (d_v 3) (aa d_n af)))) (@aa _ _ _ _ _ (aS (aa (d_v 2) (aa (d_v 3) (aa (xC (yJ rfl T.kh (aa (d_v 4) af)) (aS (aa d_i af))) af)))) (@aa _ _ _ _ _ (aS (aa (d_v 2) (aa (d_v 3) (aa (aX (aa (aS (aa d_i (aa d_i (aa d_i af)))) af)) af)))) (@aa _ _ _ _ _ d_s af rfl) rfl) rfl) rfl) rfl) rfl))))
  (ai (s_a 5 ji.nd (bE (d_v 5) (aX (aa (aS (aa (d_v 2) (aa (d_v 3) (aa (aX (aa (aS (aa d_i (aa d_i (aa (d_v 2) af)))) af)) af)))) (aa (aS (aa (d_v 2) (aa (d_v 3) (aa (aX (aa (aS (aa (mY d_i d_i) (aa d_i (aa d_i af)))) af)) af)))) (aa (aS (aa (d_v 2) (aa (d_v 3) (aa (aX (aa (aX (aa d_i (aa d_i (aa d_i af)))) af)) af)))) (aa (aS (aa (d_v 2) (aa d_i (aa (aX (aa (aS (aa d_i (aa d_i (aa d_i af)))) (aa (aS (aa d_i (aa d_i (aa d_i af)))) af))) af)))) af)))))))
  (aq (s_r (aL (d_v 5) (bW (ee T) (Br.hm hr) rfl T.gY T.gm.kp T.fK (aa (d_v 0) (aa (cD rfl T.cC (aa (d_v 5) af)) af)))))))))),uy (n:=2) (m:=4) rfl h⟩
theorem N9 :
  aK P' w K mg base CX0 2 oV jd ["n","k","ties"] (spD zl):=
 okQ T.Kl tw fun _ _ _ _ _ _ hr=>(ai (s_a 3 tw.nd (aX af))
  (ai (cX T6 rfl (i_S (aE (N7 T) (Br.hm hr) rfl T.Rb T.Kg.kp T.EE (aa (d_v 0) af))) (g_n 4 tw.nd)
  (ai (s_a 5 tw.nd (aE (N6 T) (Br.hm hr) rfl T.Ra T.Kf.kp T.ED (aa (d_v 2) (aa (d_v 4) af))))
  (aq (cI (Gs (cD rfl T.cC (aa (d_v 5) af)) (d_v 1)) (aq (uo 3 (aS (aa (cD rfl T.cC (aa (d_v 5) af)) (aa (d_v 4) (aa (d_v 5) af)))))) bP))))
  (aq (s_r (Az ["n","k","ties","found","%4","%5"] ["many","side","moments"] (c_t rfl (fun _ _ _ _ _=>(aO 6 tE (aO 7 tE (aO 8 tE dY))))) (i_S (Hv hr rfl T.pD (aa (d_v 3) af))) (fun _ _ _ _ _=>bJ) (fun _ _ _ _ _=>(aS (aa (d_v 7) (aa (d_v 8) af)))))))))
theorem N_ :
  aK P' w K mg base CX0 11 oW je ["way","thing"] (spT (tbq aA aF) (zm aH)):=by
 refine zd T.Km ES (fun vs H Q E h=>ic h) (fun cdv A outer s H vs Q E hc hr ht h=>?_);exact ⟨_,(ai (Ss (MH (fun pn xe=>(aq (cI (lT hr (d_v 0) d_i) (aq (s_e (Dq ht (ye T) (Br.hm hr) rfl T.vt T.ki.kp T.sX (aa (d_v 1) af)))) (aq (cI (lT hr (d_v 0) d_i) (aq (s_e (l_ ht (NZ T) (Br.hm hr) rfl T.JP T.q_.kp T.zM (aa (d_v 1) (aa d_i af))))) (aq (s_e (aE (N2 T) (Br.hm hr) rfl T.JR T.zK.kp T.zN (aa (d_v 1) (aa d_i (aa (aS (aa d_s af)) af)))))))))))) (MK (ie:=2) rfl rfl rfl ES.nd rfl rfl rfl T.x9 T.kg (fun pn xe E hp=>(gR (MG (lT hr (d_v 0) d_i) (gR (y_x (nt (Hu (c_ T) (Br.hm hr) rfl T.vt T.ki.kp T.sX hp (aa (d_v 1) af))))) (gR (MG (lT hr (d_v 0) d_i) (gR (y_x (nt (x_call (gI T) (Br.hm hr) rfl T.JP T.q_.kp T.zM hp (aa (d_v 1) (aa d_i af)))))) (gR (y_x (nt (x_call (fM T) (Br.hm hr) rfl T.JR T.zK.kp T.zN hp (aa (d_v 1) (aa d_i (aa (aS (aa d_s af)) af)))))))))))) (fun A' xe=>(aq (s_r (aX (aa (De (PZ T.k7 T.pB rfl T.H_ rfl T.bq (d_v 2)) Df) (aa (De (Ms T.k7 T.gH rfl rfl T.sV rfl T.bq (d_v 2)) Df) (aa (De (P6 (Ds:=[bV,cZ,c9]) T.k7 T.cJ (xu rfl T.x8 (xu rfl T.D9 (xu rfl T.D_ P4))) (Ut rfl) rfl T.bq (d_v 2)) Df) af)))))))))
  (aq (s_r (aX af)))),Aq (n:=2) (m:=1) rfl h⟩
theorem Oa :
  aK P' w K mg base CX0 12 oX kZ ["script"] (spT (tbq aA aF) (qQ aH)):=by
 refine zd T.Rp d_ (fun vs H Q E h=>ic h) (fun cdv A outer s H vs Q E hc hr ht h=>?_);exact ⟨_,(ai (cX T6 rfl (Sn rfl T.cj (aa d_i (aa (Cd rfl rfl T.JJ (aa d_i (aa (w_ rfl rfl T.Eb (aa (cD rfl T.cC (aa (d_v 0) af)) (aa d_i af))) af))) (aa d_i af)))) (g_n 1 d_.nd)
  (ai (s_a 2 d_.nd (aE (yf T) (Br.hm hr) rfl T.Eg T.zL.kp T.vD (aa (d_v 0) (aa (d_v 1) af))))
  (ai (s_a 3 d_.nd (bW (N3 T) (Br.hm hr) rfl T.Q8 T.Kc.kp T.EG (aa (d_v 2) af)))
  (ai (s_a 4 d_.nd (bE d_i (bW (ee T) (Br.hm hr) rfl T.gY T.gm.kp T.fK (aa (d_v 2) (aa d_i af)))))
  (ai (s_a 5 d_.nd (Hl (N4 T) (Br.hm hr) rfl T.Q9 T.Kd.kp T.EH (aa (aE (yf T) (Br.hm hr) rfl T.Eg T.zL.kp T.vD (aa (d_v 0) (aa (bE (d_v 1) d_i) af))) (aa (d_v 3) (aa (aL (aX (aa d_i (aa d_i af))) (I_ rfl T.Ea (aa (Lz (d_v 3) d_i) af))) af)))))
  (ai (s_a 6 d_.nd (aE (NX T) (Br.hm hr) rfl T.Q5 T.J4.kp T.EF (aa (d_v 3) (aa (d_v 5) (aa (d_v 4) af)))))
  (ai (cX T6 rfl (i_S (bE (bE (aX (aa d_i af)) (cL 5 ["script","at","pool","n","k","record","net","t","way"] ["tie"] (c_n 9 IA rfl rfl) (d_v 5) (fun _ _ _ _ _=>bJ) (fun _ _ _ _ _=>(aL (d_v 9) d_i)))) (Az ["script","at","pool","n","k","record","net","t","way"] ["tie"] (c_n 9 IB rfl rfl) (i_S (Pg (d_v 5) (o_s (O_ d_i)) o_n)) (fun _ _ _ _ _=>bJ) (fun _ _ _ _ _=>(bE (aL (d_v 9) d_i) d_i))))) (g_n 7 d_.nd)
  (aq (cI (mZ hr (l_ ht (ye T) (Br.hm hr) rfl T.vt T.ki.kp T.vC (aa (d_v 6) (aa (d_v 7) af))) (aE (N9 T) (Br.hm hr) rfl T.Rf T.Kl.kp T.EK (aa (d_v 3) (aa (d_v 4) (aa (aE (N5 T) (Br.hm hr) rfl T.Q_ T.Ke.kp T.EI (aa (d_v 5) (aa (d_v 7) af))) af))))) (aq (s_r d_b)) bP)))
  (ai (s_a 2 d_.nd (aE (yf T) (Br.hm hr) rfl T.Eg T.zL.kp T.vD (aa (d_v 0) (aa (bE (d_v 1) d_i) af))))
  (aq (cX T6 rfl (Av rfl T.cj (aa d_i af)) (g_n 8 d_.nd)
  (aq (cI (mZ hr (l_ ht (N_ T) (Br.hm hr) rfl T.Rg T.Km.kp T.EL (aa (d_v 8) (aa (bW (N8 T) (Br.hm hr) rfl T.Rc T.Kh.kp T.EJ (aa (d_v 2) (aa (d_v 6) af))) af))) (aX (aa d_b (aa d_b (aa d_b af))))) (aq (s_r d_b)) bP))))))))))))
  (aq (s_r d_b))),Aq (n:=1) (m:=8) rfl h⟩
end
theorem all_mk{l:WZ}{w:World}{K:eg}{h:Heap}{mg:Str->Option Value}{fa xR xS xT xU xV xW xX xY xZ x6 nR nS nT nU nV nW nX nY nZ n5 n6 n8 n9 n_ oj ou oz lM oE oF gW oG gX oH oJ lN oK oM oN oO oQ oR oS oU oV oW oX bV aH cZ c9 bB aA aF:Addr}{oY oZ o6 o7 o8 o9 o_ pe pq pA iC iD iE iF iG iH iI iJ iK iM iN iO iP iQ iR iU iV gh iW iX iY iZ i0 gk i6 i7 i8 i9 i_ ja jb jc jd je kZ:FuncData}(X:K.In h)(G:h.Ns mainGlobals mg)(hfa:mg "law" = some (.ref fa))
  {Ob pH:Option Addr} {Oc:Array (Option Value)} {Od pI pJ pK jj pL:Value} {k9:Addr} {jf:Tok} {p8:Nat} {pM:Value} {pN:Option Addr} {pO:Array (Option Value)}
  {Oe E1:Option Addr} {Of:Array (Option Value)} {Og E2 E4 E5 yg E6:Value} {yh:Addr} {Oh:Tok} {tF:Nat} {p9:Value} {p_:Option Addr} {qc:Array (Option Value)}
  {kj:Tok}
  (E7:bf K "steps_of" (top 2) xR oY)
  (E8:bf K "free_steps" (top 3) xS oZ)
  (E9:bf K "led_steps" (top 4) xT o6)
  (E_:bf K "shortest_ways" (top 5) xU o7)
  (Fb:bf K "lead_along" (top 6) xV o8)
  (Fc:bf K "parted" (top 7) xW o9)
  (Fd:bf K "ways_apart" (top 1) xX o_)
  (Fe:bf K "is_whole" (top 15) xY pe)
  (Ff:bf K "is_within" (top 16) xZ pq)
  (Fg:bf K "is_places" (top 17) x6 pA)
  (vH:bf K "is_place" (top 18) nR iC)
  (vJ:bf K "is_layers" (top 19) nS iD)
  (vK:bf K "is_moment" (top 20) nT iE)
  (vL:bf K "is_tie_either_way" (top 21) nU iF)
  (vM:bf K "is_tie" (top 22) nV iG)
  (vN:bf K "is_rising" (top 23) nW iH)
  (vO:bf K "is_side" (top 24) nX iI)
  (vP:bf K "look_at_layers" (top 25) nY iJ)
  (vQ:bf K "rim" (top 27) nZ iK)
  (vR:bf K "merged" (top 28) n5 iM)
  (vS:bf K "way_right" (top 29) n6 iN)
  (vU:bf K "ways_right" (top 30) n8 iO)
  (vV:bf K "least_layer" (top 33) n9 iP)
  (vW:bf K "layered" (top 32) n_ iQ)
  (vX:bf K "is_record" (top 36) oj iR)
  (vY:bf K "since" (top 37) ou iU)
  (vZ:bf K "is_net" (top 39) oz iV)
  (v5:bf K "look_at_net" (top 40) lM gh)
  (v7:bf K "net_of" (top 41) oE iW)
  (v8:bf K "thin_sides" (top 44) oF iX)
  (Fi:TU K mainGlobals "small_cuts" = some (some (.ref gW))) (Fj:K.lookup gW=some ⟨Od,Ob,.func (TX "small_cuts" "small_cuts" (aN (top 43)) (aI (top 43)) (ah (top 43)) (.ref k9) pI pJ pK pH jj pL),Oc⟩) (Fo:Va K jj "small_cuts" = true) (Fp:Ul K (.ref gW)=true)
  (zR:K.lookup k9=some ⟨pM,pN,.seq #[.int 0 jf] p8,pO⟩)
  (v9:bf K "shows_of" (top 46) oG iY)
  (Fq:TU K mainGlobals "least_cut" = some (some (.ref gX))) (Ft:K.lookup gX=some ⟨Og,Oe,.func (TX "least_cut" "least_cut" (aN (top 45)) (aI (top 45)) (ah (top 45)) (.ref yh) E2 E4 E5 E1 yg E6),Of⟩) (Fv:Va K yg "least_cut" = true) (Fw:Ul K (.ref gX)=true)
  (Fx:K.lookup yh=some ⟨p9,p_,.seq #[.int 0 Oh] tF,qc⟩)
  (v_:bf K "is_small" (top 48) oH iZ)
  (wc:bf K "shows_right" (top 49) oJ i0)
  (we:bf K "least_right" (top 47) lN gk)
  (wg:bf K "_law_pool" (top 51) oK i6)
  (wj:bf K "_law_take" (top 52) oM i7)
  (wm:bf K "_law_many" (top 53) oN i8)
  (wo:bf K "_law_record" (top 54) oO i9)
  (wu:bf K "_law_since" (top 56) oQ i_)
  (wA:bf K "_law_rim" (top 59) oR ja)
  (wB:bf K "_law_sides" (top 63) oS jb)
  (wC:bf K "_law_no_net" (top 66) oU jc)
  (wD:bf K "_law_due" (top 67) oV jd)
  (wF:bf K "_law_refused" (top 68) oW je)
  (rm:bf K "law" (top 69) oX kZ)
  (fE:jj=.ref aA)
  (fF:TU K mainGlobals "ValueError" = some none)
  (Fy:TU K mainGlobals "all" = some none)
  (yi:TU K mainGlobals "bool" = some none)
  (yj:TU K mainGlobals "dict" = some none)
  (gp:TU K mainGlobals "enumerate" = some none)
  (Fz:TU K mainGlobals "int" = some none)
  (fG:TU K mainGlobals "isinstance" = some none)
  (FA:TU K mainGlobals "len" = some none)
  (yk:TU K mainGlobals "list" = some none)
  (FD:TU K mainGlobals "max" = some none)
  (FF:TU K mainGlobals "min" = some none)
  (tG:TU K mainGlobals "range" = some none)
  (jl:TU K mainGlobals "reversed" = some none)
  (FG:TU K mainGlobals "set" = some none)
  (pP:TU K mainGlobals "sorted" = some none)
  (FH:TU K mainGlobals "sum" = some none)
  (tH:TU K mainGlobals "tuple" = some none)
  (FJ:TU K mainGlobals "zip" = some none)
  (gq:TU K mainGlobals "MOST_TIES" = some (some (.int 60 kj)))
  (jm:TU K mainGlobals "NoLayers" = some (some (.ref bV)))
  (mD:TU K mainGlobals "NoNet" = some (some (.ref aH)))
  (pQ:TU K mainGlobals "NoPair" = some (some (.ref cZ)))
  (pR:TU K mainGlobals "NoTies" = some (some (.ref c9)))
  (jn:TU K mainGlobals "PlyError" = some (some (.ref bB)))
  (gu:Xa K aH bmV "ValueError.__new__" = true)
  (jo:VR K (.ref aH) "__getattribute__" = some (some (.builtin "BaseException.__getattribute__")))
  (jq:VR K (.ref aH) "__getattr__" = some none)
  (jr:VR K (.ref aH) "__class__" = some (some (.builtin "object.__class__")))
  (jt:V3 K aH (.type "BaseException")=some true)
  (ju:V3 K aH (.type "object")=some true)
  (jv:(W9 K aH).isSome=true)
  (bM:UR K (.ref aH) (.type "ValueError")=some true)
  (eu:PySem.W.typeIn K (.ref bB)=some (.type "type"))
  (ez:(W9 K bB).isSome=true)
  (eE:V3 K bB (.type "BaseException")=some true)
  (bY:V3 K aH (.ref bB)=some true)
  (cT:UR K (.ref aH) (.ref aH)=some true)
  (aU:Wm K (.ref aH) (([bV,cZ,c9]:List Addr).map TZ)=some false) :
  ∃fd:FuncData,(∀(s:Shared) (v:Value),BindsTo s fd ⟨[v],[]⟩ [("script",v)])/\∀base:Heap,K.In base->base.Ns mainGlobals mg->(∀z∈tbq aA aF,lH mg base z)->aK l.prog w K mg base CX0 12 fa fd ["script"] (spT (tbq aA aF) (qQ aH)):=by
 have e:=hfa.symm.trans (rm.m X G);cases e;have M_:=E7.F.bK (ps:=["n","ties"]) rfl fun _ _ _ _ _ _ _ _=>rfl;have Na:=E8.F.bK (ps:=["steps","heads"]) rfl fun _ _ _ _ _ _ _ _=>rfl;have M9:=E9.F.bK (ps:=["steps","heads"]) rfl fun _ _ _ _ _ _ _ _=>rfl;have Ib:=E_.F.bK (ps:=["steps","a"]) rfl fun _ _ _ _ _ _ _ _=>rfl;have Nb:=Fb.F.bK (ps:=["heads","way"]) rfl fun _ _ _ _ _ _ _ _=>rfl;have Nc:=Fc.F.Dd (ps:=["steps","heads","a","b","count"]) rfl fun _ _ _ _ _ _ _ _ _ _ _=>rfl;have Ng:=Fd.F.Dd (ps:=["n","ties","a","b","most"]) rfl fun _ _ _ _ _ _ _ _ _ _ _=>rfl;have Nd:=Fe.F.d8 (ps:=["thing"]) rfl fun _ _ _ _ _ _ _=>rfl;have Bg:=Ff.F.dN (ps:=["thing","low","high"]) rfl fun _ _ _ _ _ _ _ _ _=>rfl;have Nf:=Fg.F.d8 (ps:=["thing"]) rfl fun _ _ _ _ _ _ _=>rfl;have vv:=vH.F.bK (ps:=["n","thing"]) rfl fun _ _ _ _ _ _ _ _=>rfl;have zC:=vJ.F.d8 (ps:=["thing"]) rfl fun _ _ _ _ _ _ _=>rfl;have Ej:=vK.F.d8 (ps:=["thing"]) rfl fun _ _ _ _ _ _ _=>rfl;have Ek:=vL.F.bK (ps:=["n","thing"]) rfl fun _ _ _ _ _ _ _ _=>rfl;have Et:=vM.F.bK (ps:=["n","thing"]) rfl fun _ _ _ _ _ _ _ _=>rfl;have zB:=vN.F.d8 (ps:=["things"]) rfl fun _ _ _ _ _ _ _=>rfl;have Ez:=vO.F.bK (ps:=["n","thing"]) rfl fun _ _ _ _ _ _ _ _=>rfl;have Eo:=vP.F.d8 (ps:=["k"]) rfl fun _ _ _ _ _ _ _=>rfl;have vz:=vQ.F.bK (ps:=["record","side"]) rfl fun _ _ _ _ _ _ _ _=>rfl;have Ep:=vR.F.dN (ps:=["groups","a","b"]) rfl fun _ _ _ _ _ _ _ _ _=>rfl;have Em:=vS.F.xB (ps:=["record","a","b","way"]) rfl fun _ _ _ _ _ _ _ _ _ _=>rfl;have EA:=vU.F.xB (ps:=["record","a","b","ways"]) rfl fun _ _ _ _ _ _ _ _ _ _=>rfl;have Er:=vV.F.dN (ps:=["layers","a","b"]) rfl fun _ _ _ _ _ _ _ _ _=>rfl;have zG:=vW.F.dN (ps:=["n","record","k"]) rfl fun _ _ _ _ _ _ _ _ _=>rfl;have Eu:=vX.F.bK (ps:=["n","thing"]) rfl fun _ _ _ _ _ _ _ _=>rfl;have vA:=vY.F.bK (ps:=["record","t"]) rfl fun _ _ _ _ _ _ _ _=>rfl;have zH:=vZ.F.d8 (ps:=["thing"]) rfl fun _ _ _ _ _ _ _=>rfl;have qZ:=v5.F.d8 (ps:=["thing"]) rfl fun _ _ _ _ _ _ _=>rfl;have EF:=v7.F.dN (ps:=["n","record","k"]) rfl fun _ _ _ _ _ _ _ _ _=>rfl;have Ex:=v8.F.dN (ps:=["n","ties","k"]) rfl fun _ _ _ _ _ _ _ _ _=>rfl;have ki:=y9 (st:=top 43) Fj Fo Fp;have vC:Binds K (TX "small_cuts" "small_cuts" (aN (top 43)) (aI (top 43)) (ah (top 43)) (.ref k9) pI pJ pK pH jj pL) ["net","t"] []:=fun s us hIn hl=>match us,hl with | [_,_],_=>W2 hIn rfl zR rfl rfl rfl
 have dh:(TX "small_cuts" "small_cuts" (aN (top 43)) (aI (top 43)) (ah (top 43)) (.ref k9) pI pJ pK pH jj pL).code=.ref aA:=fE;have sX:Binds K (TX "small_cuts" "small_cuts" (aN (top 43)) (aI (top 43)) (ah (top 43)) (.ref k9) pI pJ pK pH jj pL) ["net","t"] [.int 0 jf]:=fun s us hIn hl=>MC (C:=fun us=>BindsTo s (TX "small_cuts" "small_cuts" (aN (top 43)) (aI (top 43)) (ah (top 43)) (.ref k9) pI pJ pK pH jj pL) ⟨us,[]⟩ ((["net","t"]:List Str).zip (us++[.int 0 jf]))) (by simpa using hl) fun _=>W2 hIn rfl zR rfl rfl rfl;have zI:=v9.F.dN (ps:=["n","ties","count"]) rfl fun _ _ _ _ _ _ _ _ _=>rfl;have q_:=y9 (st:=top 45) Ft Fv Fw;have zM:Binds K (TX "least_cut" "least_cut" (aN (top 45)) (aI (top 45)) (ah (top 45)) (.ref yh) E2 E4 E5 E1 yg E6) ["net","t"] []:=fun s us hIn hl=>match us,hl with | [_,_],_=>W2 hIn rfl Fx rfl rfl rfl
 have EC:=v_.F.dN (ps:=["net","side","count"]) rfl fun _ _ _ _ _ _ _ _ _=>rfl;have zJ:=wc.F.xB (ps:=["n","ties","count","shows"]) rfl fun _ _ _ _ _ _ _ _ _ _=>rfl;have zN:=we.F.dN (ps:=["net","t","told"]) rfl fun _ _ _ _ _ _ _ _ _=>rfl;have vD:=wg.F.bK (ps:=["script","k"]) rfl fun _ _ _ _ _ _ _ _=>rfl;have fK:=wj.F.bK (ps:=["pool","many"]) rfl fun _ _ _ _ _ _ _ _=>rfl;have EG:=wm.F.d8 (ps:=["pool"]) rfl fun _ _ _ _ _ _ _=>rfl;have EH:=wo.F.dN (ps:=["pool","n","most"]) rfl fun _ _ _ _ _ _ _ _ _=>rfl;have EI:=wu.F.bK (ps:=["record","t"]) rfl fun _ _ _ _ _ _ _ _=>rfl;have ED:=wA.F.bK (ps:=["ties","side"]) rfl fun _ _ _ _ _ _ _ _=>rfl;have EE:=wB.F.d8 (ps:=["n"]) rfl fun _ _ _ _ _ _ _=>rfl;have EJ:=wC.F.bK (ps:=["pool","net"]) rfl fun _ _ _ _ _ _ _ _=>rfl;have EK:=wD.F.dN (ps:=["n","k","ties"]) rfl fun _ _ _ _ _ _ _ _ _=>rfl;have EL:=wF.F.bK (ps:=["way","thing"]) rfl fun _ _ _ _ _ _ _ _=>rfl;refine⟨_,fun s v=>rm.Sq (fun _ _ _ _ _ _ _=>rfl) s v,fun base Xb _ hBT=>?_⟩;have T:Txt mg K base ..:=⟨mgo X G jm,mgo X G mD,mgo X G pQ,mgo X G pR,mgo X G jn,CZ Xb (mgo X G mD) gu,⟨⟨jo,jq,jr,jt,ju⟩,jv⟩,bM,⟨eu,ez,eE,bY⟩,cT,aU,mno X G fF,mno X G Fy,mno X G yi,mno X G yj,mno X G gp,mno X G Fz,mno X G fG,mno X G FA,mno X G yk,mno X G FD,mno X G FF,mno X G tG,mno X G jl,mno X G FG,mno X G pP,mno X G FH,mno X G tH,mno X G FJ,hBT _ (.head _),⟨_,mgo X G gq⟩,E7.m X G,E8.m X G,E9.m X G,E_.m X G,Fb.m X G,Fc.m X G,Fd.m X G,Fe.m X G,Ff.m X G,Fg.m X G,vH.m X G,vJ.m X G,vK.m X G,vL.m X G,vM.m X G,vN.m X G,vO.m X G,vP.m X G,vQ.m X G,vR.m X G,vS.m X G,vU.m X G,vV.m X G,vW.m X G,vX.m X G,vY.m X G,vZ.m X G,v5.m X G,v7.m X G,v8.m X G,mgo X G Fi,v9.m X G,mgo X G Fq,v_.m X G,wc.m X G,we.m X G,wg.m X G,wj.m X G,wm.m X G,wo.m X G,wu.m X G,wA.m X G,wB.m X G,wC.m X G,wD.m X G,wF.m X G,rm.m X G,E7.F,E8.F,E9.F,E_.F,Fb.F,M9,Ib,Fc.F,M_,Na,Nb,Nc,Fd.F,Fe.F,Nd,Ff.F,Bg,Fg.F,vH.F,vJ.F,vK.F,vv,Ej,vL.F,Ek,vM.F,vN.F,zB,vO.F,zC,vP.F,vQ.F,vR.F,vS.F,Em,vU.F,vV.F,Eo,Ep,Er,vW.F,Nf,Et,vX.F,vY.F,zG,Eu,vZ.F,zH,v5.F,v7.F,vz,v8.F,vA,qZ,Ex,dh,ki,Ng,v9.F,vC,sX,zI,q_,Ez,v_.F,EA,wc.F,EC,zJ,we.F,wg.F,wj.F,fK,wm.F,wo.F,wu.F,wA.F,wB.F,wC.F,ED,EE,wD.F,zM,zN,wF.F,EF,vD,EG,EH,EI,EJ,EK,EL,rm.F⟩
 exact Oa T
theorem walk{aA aF:Addr}{l:WZ}{q:Program}{loose:List Str}{XP:(Str->Option Value)->Heap->Prop}{YP:World->Heap->Prop}{d:DefRec}{K:Params->eg}(hn:l.most=some 63)(hdf:d.params.defaults=[])
  (hY:∀(w:World) (h:Heap),YP w h->(K w.params).In h) (hT:∀(w:World) (h:Heap),YP w h->∀P∈([aF]:List Addr),h.get? P=some (Wo #[])) (hC:∀(w:World),PySem.W.codeHdIn (K w.params) aA aF=true) (hKt:∀w:World,W7 (K w.params)=true) (M:∀ns:List Int,ns.length<=63->qQ bQ [.lst (ns.map Dat.int)]=some (.val (.bl true))) (hK:∀w:World,Ck (K w.params)=true)
  (F:∀ (w:World) (mg:Str→Option Value) (fa:Addr) (h:Heap),(K w.params).In h→h.Ns mainGlobals mg→mg d.name=some (.ref fa) →
   ∃fd:FuncData,(∀(s:Shared) (u:Value),BindsTo s fd ⟨[u],[]⟩ [("script",u)])/\∀base:Heap,(K w.params).In base->base.Ns mainGlobals mg->(∀z∈tbq aA aF,lH mg base z)->aK l.prog w (K w.params) mg base CX0 12 fa fd ["script"] (spT (tbq aA aF) (qQ bQ))) :
  PySem.W.WalkO q loose XP YP l.row.toRowW d [] (fun f vs=>PySem.call f vs):=
 Br.Dr (n:=63) (k:=12) (x := "script") (tb:=tbq aA aF) hn (by decide) hdf ⟨rfl,by decide,by decide,rfl⟩ hY (fun w h Y z hz=>by rw[TJ.mp hz];exact⟨PySem.W.codeHd_of_K (hY w h Y) (hC w),hT w h Y _ (.head _)⟩) (by simp) hKt F
  fun w H a ns hl hS=>LK (M ns hl) (hK w) hS
end Q
noncomputable def PySem.W.Fast.tw3013526443049106631:PySem.Program:=PySem.Challenge.pw_sinceply_k33_whole_cuts_of_the_record
theorem PySem.W.Fast.te3013526443049106631:PySem.Challenge.pw_sinceply_k33_whole_cuts_of_the_record=PySem.W.Fast.tw3013526443049106631:=rfl
namespace PySem.W.Fast
def tw10630031547972832374:=0
def tw15980915643126328431:=0
def tw4579748795852281024:=0
def tw5016598277988248677:=0
def tw17693878379747290867:=0
def tw17826490237470289680:=0
def tw7868407009934039761:=0
def tw11933150305701446802:=0
def tw12441326311009460910:=0
def tw12140191135408785154:=0
def tw2545967347741611860:=0
def tw464068612425679507:=0
def tw12538964755549287308:=0
def tw16287384002471632002:=0
def tw2376169423783048663:=0
def tw10330526568225937483:=0
def tw7809926722436791979:=0
def tw14778171197303636407:=0
def tw15063428768940064889:=0
def tw8829722140517759360:=0
def tw15064618961496023222:=0
def tw17496052953550425666:=0
def tw12759841750180553756:=0
def tw18159254962693655536:=0
def tw10252307198467835404:=0
def tw1661225017718175443:=0
def tw9794315396172155284:=0
def tw3739381993386218890:=0
def tw10692984611913090903:=0
def tw2528178933902616265:=0
def tw11934455093347245115:=0
def tw10561676951612468706:=0
def tw17491164565018618042:=0
def tw10119355129862445895:=0
def tw1603035774122412338:=0
def tw2711976974045449226:=0
def tw16418838934864430233:=0
def tw9558244235774919103:=0
def tw4513487986743677923:=0
def tw12991587277243604687:=0
def tw15263131432038397671:=0
def tw468244437909611289:=0
def tw2846746325144517560:=0
def tw2238952886805481093:=0
def tw12285355762818762633:=0
def tw9379530892616481138:=0
def tw13387602924443336892:=0
def tw4487081131716970497:=0
def tw9126751104632649724:=0
def tw11253384483123901679:=0
def tw12402755150486750876:=0
def tw5403556008399404513:=0
def tw13957789229765501732:=0
def tw14582005140559758434:=0
def tw4689083786290406453:=0
def tw11916535643871520821:=0
def tw8484577082326373645:=0
def tw4650926513657801588:=0
def tw6178103055793782049:=0
def tw16692593895380252212:=0
def tw12484322360979370403:=0
def tw5614719462189700641:=0
def tw10938429601656989598:=0
def tw17385422994712088855:=0
def tw3231458069765104120:=0
def tw9400265999043073250:=0
def tw16799355986252179821:=0
def tw18275310393830976714:=0
def tw1813687107321225781:=0
def tw13327637773475169603:=0
def tw15609654264677189099:=0
def tw498710354942956899:=0
def tw12463644636009489620:=0
def tw14553919023984057532:=0
def tw17764725862393127484:=0
def tw172338077626453595:=0
def tw3682159049359251508:=0
def tw6123074199226683349:=0
def tw14639782356309538108:=0
def tw15632633407965450849:=0
def tw11283901975320905184:=0
def tw5185257472304294731:=0
def tw2475895684806379031:=0
def tw2784875555354693602:=0
def tw4811386771246642116:=0
def tw7068676157770453383:=0
def tw2853500344620540304:=0
def tw10900485809862810853:=0
def tw13727575510027742725:=0
def tw9430335788840682594:=0
def tw3213394774705392538:=0
def tw13945825155105950424:=0
def tw11089781312515601541:=0
def tw9867191430734202042:=0
def tw16417373352521660488:=0
def tw5254518564782549356:=0
def tw2416217032821947750:=0
def tw9185073951045550844:=0
def tw8147233754156545099:=0
def tw1387620718291789957:=0
def tw17356064650587853710:=0
def tw11902920141369024059:=0
def tw12517477736004997309:=0
def tw11555123958454634205:=0
def tw1682176035292602137:=0
def tw2934041451891386730:=0
def tw9815639399329217039:=0
def tw10279428701757428859:=0
def tw4455491292994549794:=0
def tw7191964998804451479:=0
def tw9254795626589076725:=0
def tw5424550192599532235:=0
def tw4445564816760856310:=0
def tw8202194982895544161:=0
def tw17771940024291963297:=0
def tw17416937721520172991:=0
def tw15687954935981419464:=0
def tw9669793329261219550:=0
def tw1871499248751424608:=0
def tw237545536437210607:=0
def tw10877299274883276847:=0
def tw13592714492830834230:=0
def tw11999491017643948022:=0
def tw18021241143102390176:=0
def tw3218157978577827866:=0
def tw16374612820684293656:=0
def tw17490587883681688475:=0
def tw17586758619881790412:=0
def tw4300398808374892970:=0
def tw3852357172167810114:=0
def tw12871806985129456874:=0
def tw15243293519194737775:=0
def tw12225309894766870897:=0
def tw327647104539585570:=0
def tw13456498075984698874:=0
def tw14244031098056622395:=0
def tw7533074351972817184:=0
def tw14836571146299226719:=0
def tw4014762535531334673:=0
def tw8287263000444473973:=0
def tw4384907742001728020:=0
def tw17581903715244855667:=0
def tw18042998752951964646:=0
def tw17572316397716932602:=0
def tw10837695666439268888:=0
def tw9424351968618496005:=0
def tw9282955649873222902:=0
def tw4506795341647536031:=0
def tw1205254849391208468:=0
def tw12635812383409017035:=0
def tw10192112118095022916:=0
def tw18067659682299114824:=0
def tw10601665023887297468:=0
def tw11321380991672820097:=0
def tw10944707050468235234:=0
def tw4600397105997460475:=0
def tw5147534436986030479:=0
def tw2993013218693379148:=0
def tw8441677133421340323:=0
def tw12063929297726980417:=0
def tw3211974368447550237:=0
def tw11873547717186751091:=0
def tw10979694632637506831:=0
def tw9370447776492423290:=0
def tw16833733886751324540:=0
def tw15774443736812847921:=0
def tw18239504767014363362:=0
def tw8142176332320696479:=0
def tw14709606292567971259:=0
def tw11998049190812721419:=0
def tw7009344773037910834:=0
def tw9736166557052018959:=0
def tw13120034498260312575:=0
def tw2349622867350402806:=0
def tw4247244699418595949:=0
def tw17739269808765675449:=0
def tw457583029056847260:=0
def tw13304864686359225594:=0
def tw17061720459988520386:=0
def tw7758278840409921637:=0
def tw18108894843547058347:=0
def tw14088838449581418003:=0
def tw12395281610095217362:=0
def tw11979473553357807318:=0
def tw11904130202193291363:=0
def tw14025234507254885778:=0
def tw4109324594766930054:=0
def tw347917799343363988:=0
def tw13459408709107177195:=0
def tw14570452571819345655:=0
def tw7667954702650731081:=0
def tw9623534099962710190:=0
def tw5173954311337227522:=0
def tw13918805135029892416:=0
def tw9638817571651389818:=0
def tw15721210829846404927:=0
def tw15536045350109373865:=0
def tw5716230799485187690:=0
def tw6801083245008784828:=0
def tw18254997340946511404:=0
def tw17874262587489368815:=0
def tw16359377245347510390:=0
def tw10621620791624377256:=0
def tw2421448995276000742:=0
def tw15446250521054540643:=0
def tw17794296903316447655:=0
def tw1845982725295380029:=0
def tw5089693635285964500:=0
def tw12878389847683884652:=0
def tw1926031804746767276:=0
def tw18057939282222914984:=0
def tw16913899188146901237:=0
def tw17853913500210009185:=0
def tw5947647224308300382:=0
def tw6840239000572096610:=0
def tw9731511840101982519:=0
def tw11143854735823432947:=0
def tw17853414412022038660:=0
def tw7264809021260864636:=0
def tw165646332304348254:=0
def tw17143534154087751658:=0
def tw17576087979973539954:=0
def tw14892783439698560790:=0
def tw14263897492374359015:=0
def tw9327521245269978845:=0
def tw3813548254921958249:=0
def tw860365920846363697:=0
def tw11035614681595847234:=0
def tw3669558256992436803:=0
def tw12601723254949468157:=0
def tw8013991530226325762:=0
def tw6840081278375751927:=0
def tw14188597960115846390:=0
def tw12370347475970788768:=0
def tw5309252774812961243:=0
def tw15633395571263979738:=0
def tw10700036755576646588:=0
def tw8047807116188646369:=0
def tw2461668173461845497:=0
def tw12564459392249985464:=0
def tw6081919363410666787:=0
def tw10638298081766463253:=0
def tw1178396774169576922:=0
def tw2129912905551055678:=0
def tw15861802370113817634:=0
def tw16430734219092398732:=0
def tw4457413676725405511:=0
def tw6317461178630627197:=0
def tw16945907992691591680:=0
def tw4942177548436452225:=0
def tw4493281745551328918:=0
def tw9371014615345305283:=0
def tw16699200524704494200:=0
def tw1829425525557305508:=0
def tw7823891819867105090:=0
def tw635883782369685047:=0
def tw1003519104652824235:=0
def tw2246545290663281534:=0
def tw4531668038993764331:=0
def tw1827631817330298602:=0
def tw15061885877460427466:=0
def tw5538731752590399403:=0
def tw12838901477399051070:=0
def tw6955445017626075971:=0
def tw13527747276762613339:=0
def tw3170553664480828015:=0
def tw7742837281568659476:=0
def tw13324976097054595720:=0
def tw5720346622288615950:=0
def tw6111249884716436198:=0
def tw13356703188951144928:=0
def tw16325563041120302096:=0
def tw8853970639961765119:=0
def tw12093167610104352535:=0
def tw2254235614461527451:=0
def tw14598072562383889974:=0
def tw302679440202632761:=0
def tw10508739197885204185:=0
def tw16105127027919602301:=0
def tw3543746325031327119:=0
def tw17842811989130594945:=0
def tw11312732928051271340:=0
def tw5273095544175058:=0
def tw11289226278792506603:=0
def tw14843674128060628227:=0
def tw7597593110004534196:=0
def tw11862209609574348776:=0
def tw6444613874069359310:=0
def tw5022218260985031432:=0
def tw17176399679446479205:=0
def tw118840921588667643:=0
def tw7338028898662291682:=0
def tw5210252561918839250:=0
def tw18229117395723785170:=0
def tw9403274113260710268:=0
def tw6444916636205474295:=0
def tw10517193518827988204:=0
def tw17945866134729394016:=0
def tw13218608051111463636:=0
def tw17025017810037065272:=0
def tw8961474385289341479:=0
def tw13475209052204551941:=0
def tw9016952166665413653:=0
def tw6545587496658638965:=0
def tw3348664466082190849:=0
def tw7853059249233886199:=0
def tw583159933016519082:=0
def tw7070492695954421491:=0
def tw11971585935831024629:=0
def tw13298947211439303550:=0
def tw1647116030322856709:=0
def tw6005018772995931596:=0
def tw15176872245879140595:=0
def tw14708764653697966496:=0
def tw13717956482614210512:=0
def tw12347815034013368194:=0
def tw13037223495420266376:=0
def tw13342503853170502173:=0
def tw13358003344782237886:=0
def tw8566968235348145633:=0
def tw16294561235837655579:=0
def tw4933225163951538701:=0
def tw14202051920707901738:=0
def tw5407532765649346434:=0
def tw1140643521770007439:=0
def tw11431174822319549485:=0
def tw13594277601051986152:=0
def tw4175078854000167543:=0
def tw40889265288423851:=0
def tw1824605637255119782:=0
def tw11322899762453463056:=0
def tw15638451457061060513:=0
def tw15348103066463634118:=0
def tw1423584836231196165:=0
def tw6296714840013281036:=0
def tw8010558838342678011:=0
def tw8131785447181209273:=0
def tw16998127068394799223:=0
def tw16156823585760873287:=0
def tw825326461186213232:=0
def tw14355339825874130993:=0
def tw18283816837010182689:=0
def tw7374381016266083161:=0
def tw8510169201190013919:=0
def tw530853843563010162:=0
def tw10242174939328940150:=0
def tw9951655607864730213:=0
def tw11602957653152664595:=0
def tw13998012808986523731:=0
def tw10679029114340150599:=0
def tw5075145473440976021:=0
def tw11034293455379127047:=0
def tw18386576945184882604:=0
def tw5252033158048770899:=0
def tw13323492621836487795:=0
def tw81786102451558576:=0
def tw12516042400577055946:=0
def tw16460343046637237763:=0
def tw3820017736973737358:=0
def tw6090263329404644196:=0
def tw711988846543247347:=0
def tw8068303593838604805:=0
def tw6334950835050313190:=0
def tw17953942711476512562:=0
def tw12405458286159029124:=0
def tw5425542871533914830:=0
def tw10445525349923257767:=0
def tw5907408135764925841:=0
end PySem.W.Fast
open PySem PySem.W PyProof.Rows
set_option maxRecDepth 100000 in
set_option maxHeartbeats 0 in
theorem PySem.Challenge.cw_sinceply_k33_whole_cuts_of_the_record_holds : PySem.Challenge.rw_sinceply_k33_whole_cuts_of_the_record.Holds := by
 w_on;o_law;k_head;(case hw=>w_witness2)
 k_fill
 refine' Q.walk (l:=PySem.Challenge.rw_sinceply_k33_whole_cuts_of_the_record) rfl rfl (fun w h Y=>PySem.W.km_in_of Y) (fun w h Y=>PySem.W.km_tabs_of Y) ?hC ?hKt (P.math _) ?noL ?fnS
 case noL=>intro w;rfl
 case fnS=>
  intro w mg fa h KX G hmg
  refine' Q.all_mk KX G hmg ?E7 ?E8 ?E9 ?E_ ?Fb ?Fc ?Fd ?Fe ?Ff ?Fg ?vH ?vJ ?vK ?vL ?vM ?vN ?vO ?vP ?vQ ?vR ?vS ?vU ?vV ?vW ?vX ?vY ?vZ ?v5 ?v7 ?v8 ?Fi ?Fj ?Fo ?Fp ?zR ?v9 ?Fq ?Ft ?Fv ?Fw ?Fx ?v_ ?wc ?we ?wg ?wj ?wm ?wo ?wu ?wA ?wB ?wC ?wD ?wF ?rm ?fE ?fF ?Fy ?yi ?yj ?gp ?Fz ?fG ?FA ?yk ?FD ?FF ?tG ?jl ?FG ?pP ?FH ?tH ?FJ ?gq ?jm ?mD ?pQ ?pR ?jn ?gu ?jo ?jq ?jr ?jt ?ju ?jv ?bM ?eu ?ez ?eE ?bY ?cT ?aU
  case E7|E8|E9|E_|Fb|Fc|Fd|Fe|Ff|Fg|vH|vJ|vK|vL|vM|vN|vO|vP|vQ|vR|vS|vU|vV|vW|vX|vY|vZ|v5|v7|v8=>refine' Br.aG ?e ?l ?c ?k;(case e=>k_is);(case l=>k_is);(case c=>k_is);(case k=>k_is)
  case Fi|Fj|Fo|Fp|zR=>k_is
  case v9=>refine' Br.aG ?e ?l ?c ?k;(case e=>k_is);(case l=>k_is);(case c=>k_is);(case k=>k_is)
  case Fq|Ft|Fv|Fw|Fx=>k_is
  case v_|wc|we|wg|wj|wm|wo|wu|wA|wB|wC|wD|wF|rm=>refine' Br.aG ?e ?l ?c ?k;(case e=>k_is);(case l=>k_is);(case c=>k_is);(case k=>k_is)
  case fF|Fy|yi|yj|gp|Fz|fG|FA|yk|FD|FF|tG|jl|FG|pP|FH|tH|FJ|gq|jm|mD|pQ|pR|jn=>k_is
  case gu|jo|jq|jr|jt|ju|jv|bM|eu|ez|eE|bY|cT|aU=>first | k_is | kit_is | kernel_rfl
  case fE=>rfl
 case hC=>intro w;kernel_rfl
 case hKt=>intro w;kernel_rfl
end
