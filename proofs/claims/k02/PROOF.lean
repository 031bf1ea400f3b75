import PyProof.Rows.All
import Wide.All
import OpenK.AllK
import Wide.FinOn
import Lean
import PyProof.EqAt
import PyProof.EqKinds
import PyProof.TupleCall
import KE.KRevIter
import PyProof.EnumMake
import PyProof.EnumFor
import PyProof.ListRange
import PyProof.Rows.Range3
import PyProof.ZipIter
import PyProof.SumWalk
import PyProof.WalksMore
import PyProof.Rows.SetFrom
import PyProof.SetRoads
import PyProof.Rows.SortRunsK
import PyProof.Rows.SortWalk
import KE.KSortTup
import PyProof.Rows.Own
import PyProof.StationsW
import OpenK.KRaise
import KE.KIsAll
import PyProof.ExcArgsOwn
import PyProof.RulesAs
import PyProof.Ns1
import PyProof.Rows.Catch
import OpenK.KOwn
import PyProof.ExcBaseAll.ValueError
import KE.KDictSum
import PyProof.AttrMiss
import PyProof.IsiH_list
import KE.KDictOf
import PyProof.DictList
import KE.KDictList
import PyProof.FactsAll.set
import PyProof.Rows.TupAdd
import KE.KDictMeth
import PyProof.DictWalks
import PyProof.TupleKey
import PyProof.DictStraight
import PyProof.IsRules
import KE.KRevSl
import PyProof.Rows.CallKwBuiltin
import PyProof.Rows.SortShell
import KE.KSortKey
import KE.KLam
import KE.KNestM
import PyProof.CallStr
import OpenK.KMake
import PyProof.ExcClass2
import PyProof.InstStoreFacts
import OpenK.KCls
import PySem.Challenge.RW_sinceply_k02_records_refused
open Array renaming length_toList→Dp,getElem?_eq_getElem→Ds,getD_eq_getD_getElem?→UB,toList_append→UY,getElem?_toList→U7,size_push→Ve,getElem?_eq_some_iff→Vf,toList_extract→Vy,toList_push→VS,perm_iff_toList_perm→V2,toList_reverse→V8,getElem_toList→V9,size_extract→Wn,getElem?_setIfInBounds→Wx,getElem_mem_toList→WU,getElem?_replicate→WV,size_append→W5,getElem?_eq_none→Xc,replicate→Xn,size_map→Xv,find?_toList→XC
open Bool renaming not_true→Up,false_eq_true→Uu,not_false→Ux,false_ne_true→UZ,and_eq_true→U9,eq_iff_iff→XZ,false_and→X5,and_false→Yb
open Classical renaming byContradiction→WL
open False renaming elim→UH
open ForInStep renaming done→Vk,yield→VE
open Int renaming emod_nonneg→VQ,emod_lt_of_pos→VZ,toNat_natCast→W8
open List renaming replicate→fj,getElem?_set_ne→gV,getElem?_cons_succ→PU,getElem?_cons_zero→Ua,length_cons→Ub,map_cons→Uc,length_map→Ud,mem_cons_of_mem→Ue,mem_cons→Ui,mem_cons_self→Uj,nil_append→Uk,set_cons_zero→Ul,getElem?_append_left→Um,set_cons_succ→Uo,getElem?_nil→Uq,cons_append→Ur,length_nil→Us,mem_append→Uy,getElem?_eq_getElem→Uz,mem_append_right→UD,size_toArray→UE,range→UG,getElem?_append_right→UI,mem_singleton→UK,length_append→UO,map_nil→UP,set_nil→US,getElem?_eq_some_iff→UT,getElem?_map→UX,mem_map→U0,getElem?_set_self→U1,append_nil→U3,mem_range→U4,pairwise_append→U5,mem_append_left→Va,lookup_cons→Vc,all_eq_true→Vd,getElem?_eq_none→Vg,getElem?_replicate→Vh,filterMap_cons→Vi,pairwise_iff_getElem→Vj,length_take→Vn,getD_eq_getElem?_getD→Vq,extract_eq_take_drop→Vs,take_append_drop→Vu,length_set→Vv,mem_of_mem_take→Vz,take_of_length_le→VB,append_assoc→VC,drop_eq_getElem_cons→VD,nodup_cons→VI,replicate_succ→VJ,pairwise_cons→VM,mem_of_getElem?→VO,mem_of_mem_drop→VP,getElem?_set→VR,getElem_of_mem→VT,not_mem_nil→VV,mem_filterMap→VY,flatten_cons→V4,pairwise_map→V6,getElem?_take_of_lt→Wc,length_drop→Wd,map_map→Wf,map_congr_left→Wg,foldl_cons→Wj,length_replicate→Wq,getElem_mem→WD,any_eq_true→WG,reverse_append→WH,mem_filter→WJ,zip_cons_cons→WO,reverse_cons→W4,length_range→W7,drop_eq_nil_of_le→Xa,getElem_map→Xf,of_mem_zip→Xk,mem_iff_getElem→Xl,map_append→Xp,length_reverse→Xr,Perm→XD,contains_cons→XG,Pairwise→XH,drop_sublist→XN,foldl→XO,take_length→XT,isEmpty_nil→XU,find?_cons→X0,drop_drop→X7,take_zero→X8,all_map→Yl
open List.Pairwise renaming imp_of_mem→WQ
open List.Perm renaming append_left→Xg
open Nat renaming zero_add→UA,lt_of_lt_of_le→UJ,reduceAdd→UL,ne_of_lt→UM,zero_le→U6,le_of_ble_eq_true→U8,add_sub_cancel→Vw,eq_or_lt_of_le→VN,lt_irrefl→V1,lt_succ_of_lt→V5,le_of_lt_succ→V7,not_lt→Wm,succ_pos→Ww,mod_lt→WY,lt_succ_self→Xe,le_of_lt→Xi,ne_of_gt→Xj,lt_or_ge→Xo,le_add_right→XW,lt_trans→Yj,add_zero→Yk
open Ne renaming symm→Vl
open Option renaming map_some→Uv,map_none→Uw,isSome_iff_exists→UN,isSome→VL,getD_some→WE
open PyProof.Rows renaming OwnCls→Vo,boot_isinstance→Wu,callWith_type1→Wy
open PyProof.Rows.F renaming plain_set_update_loop→W0
open PyProof.Rows.KeyOrd renaming kle_of_klt→Vm,kle_refl→VF,kle_trans→VG
open PyProof.Rows.SortSt renaming mk'→XQ
open PySem.Around renaming under→XR
open PySem.Builtin.List renaming listTooLong→WN
open PySem.Calls renaming callWith_builtin→W9
open PySem.Code renaming quiet_builtin→WS,isFrame→Yi
open PySem.Data renaming fields→Xz
open PySem.EntryCells renaming newEntry→Xs
open PySem.F renaming excBase_ValueError→UC,excAttr_ValueError→V3
open PySem.Heap renaming get?_push_of_some→Dk,lt_size→Uh,get?_push_size→UW,get?_update_self→Vp,get?_update_other→VW,SameBut→VX,size_push→Wa,FlyingW→Wv,get?_none_of_le→Wz,get?_push_ne→W6,MadeExcOf→Xw
open PySem.Heap.SameBut renaming update→VU
open PySem.NameKind renaming cell→Yg
open PySem.Obj renaming mapSeq→Wl,dropNameByArray→WI,data_mapFields→WW,putSet→WZ,dropName_eq→Xm
open PySem.PassesOwn renaming never→V0
open PySem.PyData renaming eqv→Vx,depthAll→WK,eqvAll→XI,canLayAll0→XM
open PySem.SetTable renaming grown→Yc
open PySem.Value renaming ref→UU,builtin→VH,int→WM,bool→Yd,type→Ye,str→Yh,float→Ym,isStr→Yn
open PySem.W renaming kitOne→eg,Frag→gc,findIn→Ug,keepIn→Ut,nsIn→UQ,mroIn→UR,fnOf→Vb,kia_one→Vr,clsIn→Vt,excIn→VA,callWith_K→Wh,codeIn→WX,hasDictIn→W2,specialIn→W3,hideAll→Xh,hideAll_get→Xq,typeIn→Xy,of_hideAll→XA,methodObj→XJ,instObj→XX,OpenLaw→XY,readsIn→X3,findCls→X4,lookIn→X6
open PySem.W.Looks renaming of_pure→Xd,ld→Xx
open Sum renaming inl→Wo,inr→Xu
open True renaming intro→WC
noncomputable section
set_option Elab.async false
set_option linter.all false

set_option maxRecDepth 100000
local macro_rules|`(tactic|trivial)=>`(tactic|first|exact Or.inl rfl|exact Or.inr rfl|exact Or.inr (Or.inl rfl)|exact Or.inr (Or.inr rfl)|assumption)
local macro_rules|`(tactic|and_intros)=>`(tactic|dsimp only[List.map,List.replicate,List.cons_append,List.nil_append])
namespace L2
open PySem PySem.Spec PyProof.Rows
section
variable{a b:Addr}{o:HO}{H:Hp}
noncomputable abbrev Key:=Sum Int Str
noncomputable def MF:Key->Value->Bool
 |.inl k,v=>Value.isInt k v
 |.inr x,v=>Value.isStrOf x v
noncomputable def SN(w:World):Key->Int
 |.inl k=>hashInt k
 |.inr x=>hashStr w x
theorem cV:∀{k:Key} {v:Value},MF k v=true->(∃i t,k=Wo i/\v=WM i t)\/(∃x t,k=Xu x/\v=Yh x t)
 |.inl i,v,h=>by obtain⟨t,e⟩:=Value.isInt_shape (k:=i) (v:=v) h;exact .inl ⟨i,t,rfl,e⟩
 |.inr x,v,h=>by obtain⟨t,e⟩:=Value.isStrOf_shape (x:=x) (v:=v) h;exact .inr ⟨x,t,rfl,e⟩
theorem Nz(a b:Int):decide ((Wo a:Key)=Wo b)=(a == b):=by
 by_cases e:a=b
 ·subst e;simp
 ·have h:¬(Wo a:Key)=Wo b:=fun q=>e (Wo.inj q);rw[decide_eq_false h];exact(beq_eq_false_iff_ne.mpr e).symm
theorem NB(a b:Str):decide ((Xu a:Key)=Xu b)=decide (a=b):=by
 by_cases e:a=b
 ·subst e;simp
 ·have h:¬(Xu a:Key)=Xu b:=fun q=>e (Xu.inj q);rw[decide_eq_false h,decide_eq_false e]
theorem NC(a:Int)(b:Str):decide ((Wo a:Key)=Xu b)=false:=decide_eq_false (fun q=>nomatch q)
theorem ND(a:Str)(b:Int):decide ((Xu a:Key)=Wo b)=false:=decide_eq_false (fun q=>nomatch q)
noncomputable def Ej(prog:Program)(w:World):PySem.KeyKind prog w Key where
 is:=MF
 hash:=SN w
 inj:=fun v a b ha hb=>by
  rcases cV ha with⟨i,t,rfl,rfl⟩ | ⟨x,t,rfl,rfl⟩
  ·rcases cV hb with⟨j,u,rfl,e⟩ | ⟨y,u,rfl,e⟩
   ·injection e with e1 _;rw[e1]
   ·exact nomatch e
  ·rcases cV hb with⟨j,u,rfl,e⟩ | ⟨y,u,rfl,e⟩
   ·exact nomatch e
   ·injection e with e1 _;rw[e1]
 byValue:=fun k v h=>by rcases cV h with⟨i,t,rfl,rfl⟩ | ⟨x,t,rfl,rfl⟩<;>rfl
 pyHash:=fun hv h=>by
  rcases cV hv with⟨i,t,rfl,rfl⟩ | ⟨x,t,rfl,rfl⟩
  ·exact wpAny_pyHash_int h
  ·exact wpAny_pyHash_str h
 eqBool:=fun hu hv h=>by
  rcases cV hu with⟨i,t,rfl,rfl⟩ | ⟨x,t,rfl,rfl⟩
  ·rcases cV hv with⟨j,u,rfl,rfl⟩ | ⟨y,u,rfl,rfl⟩
   ·rw[Nz]at h;exact wpAny_eqBool_int h
   ·rw[NC]at h;exact SeqAt.EqAt.int_str i t y u _ _ _ _ h
  ·rcases cV hv with⟨j,u,rfl,rfl⟩ | ⟨y,u,rfl,rfl⟩
   ·rw[ND]at h;exact SeqAt.EqAt.str_int x t j u _ _ _ _ h
   ·rw[NB]at h;exact wpAny_eqBool_str h
 «strs»:=fun k x t v h=>by
  rcases cV h with⟨i,u,rfl,e⟩ | ⟨y,u,rfl,e⟩
  ·exact nomatch e
  ·injection e with e1 _
   subst e1;cases v<;>rfl
inductive V where
 |non | bl (b:Bool) | int (i:Int) | str (x:Str) | byt (b:Array UInt8) | flt (b:UInt64) | ref (a:Addr) | ty (n:String)
 deriving DecidableEq
def RelV:V->Value->Prop
 |.non,u=>u=Value.none
 |.bl b,u=>u=Yd b
 |.int i,u=>∃t,u=WM i t
 |.str x,u=>∃t,u=Yh x t
 |.byt b,u=>∃t,u=Value.bytes b t
 |.flt b,u=>∃t,u=Ym b t
 |.ref a,u=>u=UU a
 |.ty n,u=>u=Ye n
noncomputable abbrev Vals:List V->List Value->Prop:=Paired RelV
theorem Vals.length{xs:List V}{us:List Value}(r:Vals xs us):xs.length=us.length:=Paired.length r
theorem Vals.get:∀{xs:List V} {us:List Value} {i:Nat} {x:V},Vals xs us->xs[i]?=some x->∃u,us[i]?=some u/\RelV x u
 |_,_,_,_,.nil,e=>by simp at e
 |_,_,0,_,.cons r _,e=>by simp at e;subst e;exact⟨_,rfl,r⟩
 |_,_,i+1,x,.cons _ t,e=>by obtain⟨u,h1,h2⟩:=Vals.get (i:=i) (x:=x) t (by simpa using e);exact⟨u,by simpa using h1,h2⟩
theorem Vals.append:∀{xs ys:List V} {us ws:List Value},Vals xs us->Vals ys ws->Vals (xs++ys) (us++ws)
 |_,_,_,_,.nil,s=>s
 |_,_,_,_,.cons r t,s=>.cons r (Vals.append t s)
theorem Vals.take:∀{xs:List V} {us:List Value} (n:Nat),Vals xs us->Vals (xs.take n) (us.take n)
 |_,_,0,_=>.nil
 |_,_,_+1,.nil=>.nil
 |_,_,n+1,.cons r t=>.cons r (Vals.take n t)
theorem Vals.drop:∀{xs:List V} {us:List Value} (n:Nat),Vals xs us->Vals (xs.drop n) (us.drop n)
 |_,_,0,r=>r
 |_,_,_+1,.nil=>.nil
 |_,_,n+1,.cons _ t=>Vals.drop n t
def C2:Option V->Option Value->Prop
 |some v,some u=>RelV v u
 |none,none=>True
 |_,_=>False
def KV{κ:Type}:List (κ×V)->List (κ×Value)->Prop:=Paired fun(p:κ×V) (q:κ×Value)=>p.1=q.1/\RelV p.2 q.2
noncomputable def kV:Key->V
 |.inl i=>.int i
 |.inr x=>.str x
inductive HO where
 |lst (xs:List V)
 |tup (xs:List V)
 |dK (kvs:List (Key×V)) | dT (kvs:List (List Key×V)) (ts:List Addr)
 |set (S:Int->Bool) (n:Nat)
 |ins (C dx:Addr) (fs:List (Str×V))
 |own (x:Addr)
 |xd (fs:List (Str×V))
 |met (f x:Addr)
 |rng (lo hi:Int)
 |frz (o:Obj) (u:HO)
 |tbl (ln cl:Value) (q:Str)
 |ext (φ:Heap->Prop)
noncomputable abbrev Hp:=Addr->Option HO
noncomputable def upd(H:Hp)(a:Addr)(o:HO):Hp:=fun b=>if b=a then some o else H b
theorem aL{a:Addr}:upd H a o a=some o:=by unfold upd;rw[if_pos rfl]
theorem aJ(h:b≠a):upd H a o b=H b:=by unfold upd;rw[if_neg h]
theorem bQ(h:H a=some o)(h':H b=none):a≠b:=by intro e;subst e;rw[h]at h';cases h'
end
section
variable(P:Program)(w:World)
def bZ(H:Hp)(h:Heap)(a:Addr):HO->Prop
 |.lst xs=>xs.length<=sizeLine/\∃(its:List Value) (n:Nat),Vals xs its/\h.get? a=some { cls:=.type "list",data:=.seq its.toArray n }
 |.tup xs=>xs.length<=sizeLine/\∃its:List Value,Vals xs its/\IsTup h a its.toArray
 |.dK kvs=>kvs.length<=sizeLine/\(a == sysModules)=false/\∃vs,KV kvs vs/\h.DictOf (Ej P w) a vs
 |.dT kvs ts=>kvs.length<=sizeLine/\(a == sysModules)=false/\∃xs:List (List Key×Addr×Value),
   Paired (fun(p:List Key×V) (q:List Key×Addr×Value)=>p.1=q.1/\H q.2.1=some (.tup (p.1.map kV))/\RelV p.2 q.2.2) kvs xs /\
   ∃o es ep,h.get? a=some o/\o.ExactDict/\o.data=.dict es ep/\es.toList=xs.map (entryOfKey (tupleKind (Ej P w)))/\(xs.map (·.1)).Nodup/\xs.map (·.2.1)=ts
 |.set S n=>h.SetOf (intKind P w) a S n
 |.ins C dx fs=>H dx=some (.own a)/\fs.length<=1000/\dx≠a/\h.get? a=some (XX C dx) /\
   ∃mA,h.Ns1 dx mA/\(∀f,C2 (fs.lookup f) (mA f))/\PySem.Within mA (fs.map (·.1))
 |.own _=>∃o,h.get? a=some o
 |.xd fs=>∃mA,h.Ns1 a mA/\∀f,C2 (fs.lookup f) (mA f)
 |.rng lo hi=>∃t u v,h.get? a=some { cls:=.type "range",data:=.fields #[.int lo t,.int hi u,.int 1 v] }
 |.frz o u=>h.get? a=some o/\bZ H h a u
 |.tbl ln cl q=>∃ps:Array Value,h.get? a=some { cls:=.none,data:=.fields ps }/\(ps=#[]\/∃(c:Addr) (oc:Obj) (vs:Array Value) (t:Tok),ps=#[ln,cl,.ref c]/\H c=some (.frz oc (.own a))/\oc.data=.fields vs/\vs[1]?=some (.str q t))
 |.met f x=>h.get? a=some (XJ (.ref f) (.ref x))
 |.ext φ=>φ h/\(∃o,h.get? a=some o)/\∀h1 h2:Heap,φ h1->(∀o,h1.get? a=some o->h2.get? a=some o)->φ h2
def HOk(H:Hp)(h:Heap):Prop:=∀a o,H a=some o->bZ P w H h a o
end
section
variable{P:Program}{w:World}{H H':Hp}{h h':Heap}{a:Addr}{o:HO}
theorem bZ.lt(x:bZ P w H h a o):a<h.objs.size:=by
 cases o with
 |lst xs=>obtain⟨_,_,_,_,e⟩:=x;exact Uh e
 |tup xs=>obtain⟨_,_,_,p⟩:=x;exact p.lt
 |dK kvs=>obtain⟨_,_,_,_,o,_,_,e,_⟩:=x;exact Uh e
 |dT kvs ts=>obtain⟨_,_,_,_,o,_,_,e,_⟩:=x;exact Uh e
 |set S n=>obtain⟨o,_,_,_,e,_⟩:=x;exact Uh e
 |ins C dx fs=>obtain⟨_,_,_,e,_⟩:=x;exact Uh e
 |own y=>obtain⟨_,e⟩:=x;exact Uh e
 |xd fs=>obtain⟨_,⟨_,_,_,e,_⟩,_⟩:=x;exact Uh e
 |rng lo hi=>obtain⟨_,_,_,e⟩:=x;exact Uh e
 |frz ob u=>obtain⟨e,_⟩:=x;exact Uh e
 |tbl ln cl q=>obtain⟨_,e,_⟩:=x;exact Uh e
 |met f y=>exact Uh (show h.get? a=some _ from x)
 |ext φ=>obtain⟨_,⟨_,e⟩,_⟩:=x;exact Uh e
theorem Paired.P8{α β:Type}{F G:α->β->Prop}:∀{l₁:List α} {l₂:List β},Paired F l₁ l₂->(∀a b,F a b->G a b)->Paired G l₁ l₂
 |_,_,.nil,_=>.nil
 |_,_,.cons r t,f=>.cons (f _ _ r) (Paired.P8 t f)
theorem bZ.stay(x:bZ P w H h a o)(k:∀b u,(b=a\/H b=some (.own a))->h.get? b=some u->h'.get? b=some u)
  (ho:∀b,H b=some (.own a)->H' b=some (.own a)) (hf:∀b o c,H b=some (.frz o (.own c))->H' b=some (.frz o (.own c))) (ht:∀b xs,H b=some (.tup xs)->H' b=some (.tup xs)):bZ P w H' h' a o:=by
 induction o with
 |lst xs=>obtain⟨z,its,n,r,e⟩:=x;exact⟨z,its,n,r,k _ _ (.inl rfl) e⟩
 |tup xs=>obtain⟨z,its,r,ob,e,c⟩:=x;exact⟨z,its,r,ob,k _ _ (.inl rfl) e,c⟩
 |dK kvs=>obtain⟨z,y,vs,r,ob,es,ep,e,c⟩:=x;exact⟨z,y,vs,r,ob,es,ep,k _ _ (.inl rfl) e,c⟩
 |dT kvs ts=>obtain⟨z,y,xs,r,ob,es,ep,e,c⟩:=x;exact⟨z,y,xs,Paired.P8 r fun p q z=>⟨z.1,ht _ _ z.2.1,z.2.2⟩,ob,es,ep,k _ _ (.inl rfl) e,c⟩
 |set S n=>obtain⟨ob,es,ep,t,e,c⟩:=x;exact⟨ob,es,ep,t,k _ _ (.inl rfl) e,c⟩
 |ins C dx fs=>obtain⟨d,z,ne,e,mA,⟨od,es,ep,e2,c⟩,r⟩:=x;exact⟨ho _ d,z,ne,k _ _ (.inl rfl) e,mA,⟨od,es,ep,k _ _ (.inr d) e2,c⟩,r⟩
 |own y=>obtain⟨ob,e⟩:=x;exact⟨ob,k _ _ (.inl rfl) e⟩
 |xd fs=>obtain⟨mA,⟨od,es,ep,e,c⟩,r⟩:=x;exact⟨mA,⟨od,es,ep,k _ _ (.inl rfl) e,c⟩,r⟩
 |rng lo hi=>obtain⟨t,u,v,e⟩:=x;exact⟨t,u,v,k _ _ (.inl rfl) e⟩
 |frz ob u ih=>obtain⟨e,q⟩:=x;exact⟨k _ _ (.inl rfl) e,ih q⟩
 |tbl ln cl q=>
  obtain⟨ps,e,d⟩:=x;refine⟨ps,k _ _ (.inl rfl) e,?_⟩;rcases d with d | ⟨c,oc,vs,t,d,d2,d3⟩
  ·exact .inl d
  ·exact .inr ⟨c,oc,vs,t,d,hf _ _ _ d2,d3⟩
 |met f y=>have e:h.get? a=some (XJ (.ref f) (.ref y)):=x;show h'.get? a=some (XJ (.ref f) (.ref y));exact k a _ (.inl rfl) e
 |ext φ=>obtain⟨p,⟨o,e⟩,st⟩:=x;exact⟨st _ _ p fun o q=>k _ _ (.inl rfl) q,⟨o,k _ _ (.inl rfl) e⟩,st⟩
theorem HOk.lt(x:HOk P w H h)(e:H a=some o):a<h.objs.size:=(x a o e).lt
theorem HOk.fresh(x:HOk P w H h)(e:h.objs.size<=a):H a=none:=by
 cases q:H a with
 |none=>rfl
 |some u=>exact absurd (UJ (x.lt q) e) (V1 _)
theorem HOk.kept(x:HOk P w H h)(k:∀b u,h.get? b=some u->h'.get? b=some u):HOk P w H h':=fun a o e=>(x a o e).stay (fun b u _ q=>k b u q) (fun _ q=>q) (fun _ _ _ q=>q) fun _ _ q=>q
theorem HOk.laid(x:HOk P w H h)(k:∀b u,h.get? b=some u->h'.get? b=some u)(hp:h.objs.size<=a)(new:bZ P w (upd H a o) h' a o):HOk P w (upd H a o) h':=fun b u e=>by
 have hn:=x.fresh hp;by_cases hb:b=a
 ·subst hb;rw[aL]at e;cases e;exact new
 ·rw[aJ hb]at e;exact(x b u e).stay (fun c v _ q=>k c v q) (fun c q=>by rw[aJ (bQ q hn)];exact q) (fun c _ _ q=>by rw[aJ (bQ q hn)];exact q) fun c xs q=>by rw[aJ (bQ q hn)];exact q
end
def Rd(H:Hp)(a:Addr)(u:HO):Prop:=H a=some u\/∃o,H a=some (.frz o u)
theorem Rd.ok{P:Program}{w:World}{H:Hp}{h:Heap}{a:Addr}{u:HO}(r:Rd H a u)(x:HOk P w H h):bZ P w H h a u:=by
 rcases r with r | ⟨o,r⟩
 ·exact x a u r
 ·obtain⟨_,q⟩:=x a _ r;exact q
def Mut:Option HO->Prop
 |some (.lst _)=>True
 |some (.dK _)=>True
 |some (.dT _ _)=>True
 |some (.set _ _)=>True
 |some (.ins _ _ _)=>True
 |some (.ext _)=>True
 |_=>False
section
variable{P:Program}{w:World}{H:Hp}{h h':Heap}{x e:Addr}{o':HO}
theorem HOk.write(ok:HOk P w H h)(mu:Mut (H x))(he:e=x\/H e=some (.own x))(k:∀b u,b≠e->h.get? b=some u->h'.get? b=some u)(heo:∃u,h'.get? e=some u)
  (new:bZ P w (upd H x o') h' x o'):HOk P w (upd H x o') h':=fun b u q=>by
 have P9:∀c y,H c=some (.own y)->c≠x:=fun c y r z=>by subst z;rw[r]at mu;exact mu
 have SO:∀c xs,H c=some (.tup xs)->c≠x:=fun c xs r z=>by subst z;rw[r]at mu;exact mu
 have SQ:∀c o y,H c=some (.frz o y)->c≠x:=fun c o y r z=>by subst z;rw[r]at mu;exact mu
 by_cases hb:b=x
 ·subst hb;rw[aL]at q;cases q;exact new
 ·rw[aJ hb]at q;by_cases hbe:b=e
  ·have q':H b=some (.own x):=by
    rcases he with z | z
    ·exact absurd (hbe.trans z) hb
    ·rw[hbe];exact z
   rw[q]at q';cases q';obtain⟨v,hv⟩:=heo;exact⟨v,by rw[hbe];exact hv⟩
  ·refine(ok b u q).stay (fun c v hc r=>k c v ?_ r) (fun c r=>by rw[aJ (P9 c b r)];exact r) (fun c _ _ r=>by rw[aJ (SQ c _ _ r)];exact r) fun c xs r=>by rw[aJ (SO c xs r)];exact r
   rcases hc with rfl | hc
   ·exact hbe
   ·rintro rfl;rcases he with z | z
    ·exact P9 c b hc z
    ·rw[hc]at z;cases z;exact hb rfl
end
structure Un(fs ex:List Addr)(H H':Hp)(h h':Heap):Prop where
 keep:∀b o,h.get? b=some o->H b=none->b∉fs->b∉ex->h'.get? b=some o
 slot:∀b o,h.get? b=some o->H b=none->b∈fs->b∉ex->∃sl,h'.get? b=some { o with slots:=sl }
 free:∀b o,h.get? b=some o->H b=none->b∉ex->H' b=none
 there:∀b o,h.get? b=some o->b∉ex->∃o',h'.get? b=some o'
 tups:∀b xs,H b=some (.tup xs)->H' b=some (.tup xs)
 uT:∀b o u,H b=some (.frz o u)->H' b=some (.frz o u)
 wH:∀b x y z,H b=some (.tbl x y z)->H' b=some (.tbl x y z)
section
variable{fs fs' ex ex':List Addr}{H H1 H2:Hp}{h h1 h2 h':Heap}{a x e:Addr}{o:HO}
theorem Un.any(u:Un fs ex H H1 h h1){b:Addr}{ob:Obj}(q:h.get? b=some ob)(n:H b=none)(hx:b∉ex):∃sl,h1.get? b=some { ob with slots:=sl }:=by
 by_cases hb:b∈fs
 ·exact u.slot b ob q n hb hx
 ·exact⟨ob.slots,u.keep b ob q n hb hx⟩
theorem Un.kept(k:∀b u,h.get? b=some u->h'.get? b=some u):Un fs ex H H h h':=
 ⟨fun b ob q _ _ _=>k b ob q,fun b ob q _ _ _=>⟨ob.slots,k b ob q⟩,fun _ _ _ n _=>n,fun b ob q _=>⟨ob,k b ob q⟩,fun _ _ q=>q,fun _ _ _ q=>q,fun _ _ _ _ q=>q⟩
theorem Un.refl:Un fs ex H H h h:=Un.kept fun _ _ q=>q
theorem Un.laid(k:∀b u,h.get? b=some u->h'.get? b=some u)(hp:h.objs.size<=a)(hn:H a=none):Un fs ex H (upd H a o) h h' where
 keep:=fun b u q _ _ _=>k b u q
 slot:=fun b u q _ _ _=>⟨u.slots,k b u q⟩
 free:=fun b u q n _=>by rw[aJ (UM (UJ (Uh q) hp))];exact n
 there:=fun b u q _=>⟨u,k b u q⟩
 tups:=fun b xs q=>by rw[aJ (bQ q hn)];exact q
 uT:=fun b u xs q=>by rw[aJ (bQ q hn)];exact q
 wH:=fun b _ _ _ q=>by rw[aJ (bQ q hn)];exact q
theorem Un.write(mu:Mut (H x))(he:e=x\/H e=some (.own x))(k:∀b u,b≠e->h.get? b=some u->h'.get? b=some u)(heo:∃u,h'.get? e=some u):Un fs ex H (upd H x o) h h':=by
 have hx:∀b,H b=none->b≠x:=fun b n z=>by subst z;rw[n]at mu;exact mu
 have hb:∀b,H b=none->b≠e:=fun b n z=>by
  subst z;rcases he with r | r
  ·exact hx b n r
  ·rw[n]at r;cases r
 have hm:∀b u,H b=some u->¬Mut (some u)->b≠x:=fun b u q nm z=>by subst z;rw[q]at mu;exact nm mu
 refine ⟨fun b u q n _ _=>k b u (hb b n) q,fun b u q n _ _=>⟨u.slots,k b u (hb b n) q⟩,fun b u q n _=>by rw [aJ (hx b n)];exact n,fun b u q _=>?_,
  fun b xs q=>by rw[aJ (hm b _ q fun z=>z)];exact q,fun b u xs q=>by rw[aJ (hm b _ q fun z=>z)];exact q,fun b _ _ _ q=>by rw[aJ (hm b _ q fun z=>z)];exact q⟩
 by_cases hbe:b=e
 ·subst hbe;exact heo
 ·exact⟨u,k b u hbe q⟩
end
section
variable{h:Heap}{b:Addr}{o:Obj}{H:Hp}
noncomputable def trk(h:Heap)(H:Hp):List Addr:=(UG h.objs.size).filter fun a=>(H a).isSome
noncomputable def AB(h:Heap)(H:Hp):Heap:=Xh h (trk h H)
theorem Fw(h:Heap)(H:Hp):(AB h H).objs.size=h.objs.size:=PySem.W.hideAll_size _ _
theorem G6(e:h.get? b=some o)(n:H b=none):(AB h H).get? b=some o:=
 Xq _ e fun hm=>by have q:(H b).isSome=true:=(WJ.mp hm).2;rw[n]at q;simp at q
theorem Kn(e:(AB h H).get? b=some o):h.get? b=some o/\H b=none:=by
 have e':h.get? b=some o:=XA (trk h H) e;refine⟨e',?_⟩;cases q:H b with
 |none=>rfl
 |some x=>have hm:b∈trk h H:=WJ.mpr ⟨U4.mpr (Uh e'),by simp[q]⟩;have z:(AB h H).get? b=none:=PySem.W.hideAll_none (trk h H) hm;rw[z]at e;cases e
structure Mod(K:gc)(mg:Str->Option Value)(base:Heap):Prop where
 kin:K.In base
 glob:base.Ns mainGlobals mg
 blt:∃mb,base.Ns builtinsNs mb/\∀x:Str,x ≠ "__name__" -> mb x=bootBuiltins x
 nolimit:base.NoLimit
structure Cx where
 prog:Program
 w:World
 K:gc
 mg:Str->Option Value
 base:Heap
 A:Around
 N:List Str
 s₀:Shared
 H₀:Hp
 env:Env
 outer:List Env
 stack:List Env
 ex:List Addr
 fn:Str->Bool
 calm:Bool
 pn:List (Addr×Obj)
 xe:Value->Shared->Prop
noncomputable def frs(l:List Env):List Addr:=l.filterMap (·.frame)
noncomputable abbrev Cx.fs(X:Cx):List Addr:=frs X.outer
def Vis(sc:Scope)(x:Str):Prop:=sc.names.lookup x=some .local\/sc.names.lookup x=some .cell\/sc.names.lookup x=some .free
def Loc(sc:Scope)(x:Str):Prop:=sc.names.lookup x=some .local\/sc.names.lookup x=some .cell
def Look(env:Env)(h:Heap)(m:Str->Option Value)(x:Str)(u:Value):Prop:=
 (env.kindOf x=some .local/\m x=some u)\/((env.kindOf x=some .cell\/env.kindOf x=some .free)/\∃c,env.cells.lookup x=some c/\h.IsCell c (some u))
structure Cx.Ok(X:Cx):Prop where
 mod:Mod X.K X.mg X.base
 kind:X.env.scope.kind=.function
 glob:X.env.globals=mainGlobals
 blt:X.env.builtins=builtinsNs
 above:X.s₀.heap.objs.size<=X.env.locals
 inj:∀x y c,X.env.cells.lookup x=some c->X.env.cells.lookup y=some c->x=y
 has:∀x,(X.env.kindOf x=some .cell\/X.env.kindOf x=some .free)->∃c,X.env.cells.lookup x=some c
 cab:∀x c,X.fn x=true->X.env.cells.lookup x=some c->X.s₀.heap.objs.size<=c
 hd:X.calm=true->X.A.handled=none
 frames:X.A.frames=some X.stack
 stk:X.stack=X.outer\/(X.stack=X.env::X.outer/\X.env.frame=some X.env.locals)
 exf:∀b∈X.ex,b≠X.env.locals/\∀x c,X.env.cells.lookup x=some c->c≠b
 bs:∀b o,X.base.get? b=some o->X.s₀.heap.get? b=some o/\X.H₀ b=none
 bsz:X.base.objs.size<=X.s₀.heap.objs.size
 G7:∀b o,X.base.get? b=some o->b∉X.ex
 Ko:∀b∈X.ex,b∉X.fs
 uU:X.s₀.heap.FunFrames X.base X.outer
 frf:∀b∈X.fs,X.H₀ b=none
structure Inv(X:Cx)(Ju:List (Addr×Obj))(σ:List (Option V))(H:Hp)(s:Shared):Prop where
 ok:X.Ok
 os:s.os=X.s₀.os
 bare:AllBare s.gens
 base:Un X.fs X.ex X.H₀ H X.s₀.heap s.heap
 loc:∃m,s.heap.Ns X.env.locals m/\∀(i:Nat) (x:Str) (v:V),X.N[i]?=some x->σ[i]?=some (some v)->Vis X.env.scope x->∃u,RelV v u/\Look X.env s.heap m x u
 cell:∀x c,X.env.cells.lookup x=some c->∃v,s.heap.IsCell c v
 free:H X.env.locals=none
 jW:∀x c,X.env.cells.lookup x=some c->H c=none
 pin:∀p∈X.pn++Ju,s.heap.get? p.1=some p.2/\H p.1=none/\p.1≠X.env.locals/\p.1∉X.fs/\∀v,p.2.data≠.cell v
 hok:HOk X.prog X.w H s.heap
 len:σ.length=X.N.length
end
section
variable{X:Cx}{Ju:List (Addr×Obj)}{σ:List (Option V)}{H H':Hp}{s:Shared}{h':Heap}
section
variable{ch:List Addr}{x:Str}{u:Value}{a:Addr}{t':Nat}{i:Nat}{v:V}
theorem Cx.Ok.SR(ok:X.Ok){b:Addr}{o:Obj}(e:X.base.get? b=some o):b∉X.fs:=fun hb=>by have:=(ok.uU.mem hb).1;rw[e]at this;cases this
theorem Inv.bs(I:Inv X Ju σ H s):∀b o,X.base.get? b=some o->s.heap.get? b=some o/\H b=none:=fun b o e=>⟨I.base.keep b o (I.ok.bs b o e).1 (I.ok.bs b o e).2 (I.ok.SR e) (I.ok.G7 b o e),I.base.free b o (I.ok.bs b o e).1 (I.ok.bs b o e).2 (I.ok.G7 b o e)⟩
theorem Inv.bk(I:Inv X Ju σ H s):∀b o,X.base.get? b=some o->s.heap.get? b=some o:=fun b o e=>(I.bs b o e).1
theorem Inv.mod(I:Inv X Ju σ H s):Mod X.K X.mg X.base:=I.ok.mod
theorem Inv.kIn(I:Inv X Ju σ H s):X.K.In s.heap:=I.ok.mod.kin.keeps I.bk
theorem Inv.lt(I:Inv X Ju σ H s):X.env.locals<s.heap.objs.size:=let ⟨_,hn,_⟩:=I.loc;hn.lt
theorem Inv.sz(I:Inv X Ju σ H s):X.s₀.heap.objs.size<=s.heap.objs.size:=Nat.le_trans I.ok.above (Xi I.lt)
theorem Inv.SS(I:Inv X Ju σ H s)(h:s.heap.objs.size<=a):a∉X.fs:=fun hb=>by obtain⟨_,o,ho,_⟩:=I.ok.uU.mem hb;exact absurd (UJ (Uh ho) (Nat.le_trans I.sz h)) (V1 _)
theorem Inv.cne(I:Inv X Ju σ H s):∀x c,X.env.cells.lookup x=some c->c≠X.env.locals:=fun x c e z=>by obtain⟨v,o,ho,hd⟩:=I.cell x c e;obtain⟨m,⟨o',es,ep,ho',hd',_⟩,_⟩:=I.loc;rw[z,ho']at ho;cases ho;rw[hd']at hd;cases hd
theorem Inv.uU(I:Inv X Ju σ H s):s.heap.FunFrames X.base X.outer:=by
 have all:∀(l:List Env),(∀b∈frs l,b∈X.fs)->X.s₀.heap.FunFrames X.base l->s.heap.FunFrames X.base l:=by
  intro l
  induction l with
  |nil=>intro _ _;trivial
  |cons env r ih=>intro hs hl;obtain⟨hk,⟨L,o,hf,hn,ho,hd⟩,hr⟩:=hl;have hL:L∈X.fs:=hs L (by unfold frs;rw[Vi,hf];exact Uj);obtain⟨sl,e⟩:=I.base.slot L o ho (I.ok.frf L hL) hL fun z=>I.ok.Ko L z hL;exact⟨hk,⟨L,_,hf,hn,e,hd⟩,ih (fun b hb=>hs b (by unfold frs;rw[Vi,hf];exact Ue _ hb)) hr⟩
 exact all X.outer (fun _ hb=>hb) I.ok.uU
theorem Inv.stack(I:Inv X Ju σ H s):s.heap.FunFrames X.base X.stack:=by
 rcases I.ok.stk with e | ⟨e,hf⟩
 ·rw[e];exact I.uU
 ·rw[e];obtain⟨m,hn,_⟩:=I.loc;refine .cons (by rw[I.ok.kind];decide) hf hn ?_ I.uU;exact Wz (Nat.le_trans I.ok.bsz I.ok.above)
theorem Inv.xV(I:Inv X Ju σ H s):∀b∈frs X.stack,b∈X.env.locals::X.fs:=fun b hb=>by
 rcases I.ok.stk with e | ⟨e,hf⟩
 ·rw[e]at hb;exact Ue _ hb
 ·rw[e]at hb;unfold frs at hb;rw[Vi,hf]at hb;exact hb
theorem Inv.AD(I:Inv X Ju σ H s):∀b∈frs X.stack,H b=none:=fun b hb=>by
 rcases Ui.mp (I.xV b hb) with e | hb
 ·rw[e];exact I.free
 ·obtain⟨_,o,ho,_⟩:=I.ok.uU.mem hb;exact I.base.free b o ho (I.ok.frf b hb) fun z=>I.ok.Ko b z hb
theorem Inv.step{g':Array GenState}{t':Nat}{d':Drawn}{ch:List Addr}(I:Inv X Ju σ H s)
  (hch:∀b∈ch,(b∈X.ex\/X.s₀.heap.objs.size<=b)/\b≠X.env.locals/\(∀x c,X.env.cells.lookup x=some c->c≠b)/\∀p∈X.pn++Ju,p.1≠b)
  (keep:∀b o,b≠X.env.locals->b∉X.fs->b∉ch->s.heap.get? b=some o->H b=none->h'.get? b=some o)
  (slot:∀b o,b≠X.env.locals->b∈X.fs->b∉ch->s.heap.get? b=some o->H b=none->∃sl,h'.get? b=some { o with slots:=sl }) (free:∀b o,b∉ch->s.heap.get? b=some o->H b=none->H' b=none)
  (there:∀b o,b∉ch->s.heap.get? b=some o->∃o',h'.get? b=some o')
  (tups:∀b xs,H b=some (.tup xs)->H' b=some (.tup xs)) (uT:∀b o u,H b=some (.frz o u)->H' b=some (.frz o u)) (wH:∀b x y z,H b=some (.tbl x y z)->H' b=some (.tbl x y z))
  (ns:∀m,s.heap.Ns X.env.locals m->h'.Ns X.env.locals m) (hok:HOk X.prog X.w H' h') (hg:AllBare g') :
  Inv X Ju σ H' { s with heap:=h',gens:=g',drawn:=d',toks:=t' }:=by
 have neL:∀b o,X.s₀.heap.get? b=some o->b≠X.env.locals:=fun b o e=>UM (UJ (Uh e) I.ok.above);have neC:∀b o,X.s₀.heap.get? b=some o->b∉X.ex->b∉ch:=fun b o e hx hb=>by
  rcases (hch b hb).1 with z | z
  ·exact hx z
  ·exact absurd (UJ (Uh e) z) (V1 _)
 have cellK:∀x c,X.env.cells.lookup x=some c->∀v,s.heap.IsCell c v->h'.IsCell c v:=fun x c e v ⟨o,ho,hd⟩=>by
  have nch:c∉ch:=fun z=>(hch c z).2.2.1 x c e rfl;by_cases hc:c∈X.fs
  ·obtain⟨sl,q⟩:=slot c o (I.cne x c e) hc nch ho (I.jW x c e);exact⟨_,q,hd⟩
  ·exact⟨o,keep c o (I.cne x c e) hc nch ho (I.jW x c e),hd⟩
 refine⟨I.ok,I.os,hg,⟨fun b o e n hb hx=>?_,fun b o e n hb hx=>?_,fun b o e n hx=>?_,fun b o e hx=>?_,fun b xs e=>tups b xs (I.base.tups b xs e),fun b o xs e=>uT b o xs (I.base.uT b o xs e),fun b x y z e=>?_⟩,?_,fun x c e=>?_,?_,fun x c e=>?_,fun p hp=>?_,hok,I.len⟩
 ·exact keep b o (neL b o e) hb (neC b o e hx) (I.base.keep b o e n hb hx) (I.base.free b o e n hx)
 ·obtain⟨sl,e1⟩:=I.base.slot b o e n hb hx;obtain⟨sl',e2⟩:=slot b _ (neL b o e) hb (neC b o e hx) e1 (I.base.free b o e n hx);exact⟨sl',e2⟩
 ·obtain⟨o',e1⟩:=I.base.there b o e hx;exact free b o' (neC b o e hx) e1 (I.base.free b o e n hx)
 ·obtain⟨o',e1⟩:=I.base.there b o e hx;exact there b o' (neC b o e hx) e1
 ·exact wH _ _ _ _ (I.base.wH _ _ _ _ e)
 ·obtain⟨m,hn,hl⟩:=I.loc;refine⟨m,ns m hn,fun i x v e1 e2 e3=>?_⟩;obtain⟨u,r,l⟩:=hl i x v e1 e2 e3;refine⟨u,r,?_⟩;rcases l with l | ⟨k,c,e,z⟩
  ·exact .inl l
  ·exact .inr ⟨k,c,e,cellK x c e _ z⟩
 ·obtain⟨v,z⟩:=I.cell x c e;exact⟨v,cellK x c e v z⟩
 ·obtain⟨m,⟨o,_,_,ho,_⟩,_⟩:=I.loc;exact free _ o (fun z=>(hch _ z).2.1 rfl) ho I.free
 ·obtain⟨v,o,ho,hd⟩:=I.cell x c e;exact free c o (fun z=>(hch c z).2.2.1 x c e rfl) ho (I.jW x c e)
 ·obtain⟨e,n,ne,nf,d⟩:=I.pin p hp;have nch:p.1∉ch:=fun z=>(hch p.1 z).2.2.2 p hp rfl;exact⟨keep p.1 p.2 ne nf nch e n,free p.1 p.2 nch e n,ne,nf,d⟩
theorem Inv.un(I:Inv X Ju σ H s)(u:Un X.fs [] H H' s.heap h')(hok:HOk X.prog X.w H' h'):Inv X Ju σ H' { s with heap:=h',toks:=t' }:=by
 obtain⟨m,⟨o,es,ep,ho,r⟩,_⟩:=id I.loc;obtain⟨sl,hL⟩:=u.any ho I.free (by simp);exact I.step (g':=s.gens) (d':=s.drawn) (ch:=[]) (fun _ z=>nomatch z) (fun b o _ hb _ e n=>u.keep b o e n hb (by simp)) (fun b o _ hb _ e n=>u.slot b o e n hb (by simp)) (fun b o _ e n=>u.free b o e n (by simp)) (fun b o _ e=>u.there b o e (by simp)) u.tups u.uT u.wH (fun m' hm=>by obtain⟨o',es',ep',ho',r'⟩:=hm;rw[ho]at ho';cases ho';exact⟨_,es',ep',hL,r'⟩) hok I.bare
theorem Inv.call{g':Array GenState}{t':Nat}{d':Drawn}(I:Inv X Ju σ H s)(u:Un (frs X.stack) ch H H' s.heap h')(hok:HOk X.prog X.w H' h')(hg:AllBare g')
  (hch:∀b∈ch,(b∈X.ex\/X.s₀.heap.objs.size<=b)/\b≠X.env.locals/\(∀x c,X.env.cells.lookup x=some c->c≠b)/\∀p∈X.pn++Ju,p.1≠b) :
  Inv X Ju σ H' { s with heap:=h',gens:=g',drawn:=d',toks:=t' }:=by
 obtain⟨m,⟨o,es,ep,ho,r⟩,_⟩:=id I.loc;obtain⟨sl,hL⟩:=u.any ho I.free fun z=>(hch _ z).2.1 rfl;exact I.step (ch:=ch) hch (fun b o hL hb hc e n=>u.keep b o e n (fun z=>(Ui.mp (I.xV b z)).elim hL hb) hc) (fun b o _ _ hc e n=>u.any e n hc) (fun b o hc e n=>u.free b o e n hc) (fun b o hc e=>u.there b o e hc) u.tups u.uT u.wH (fun m' hm=>by obtain⟨o',es',ep',ho',r'⟩:=hm;rw[ho]at ho';cases ho';exact⟨_,es',ep',hL,r'⟩) hok hg
theorem Inv.turned{t':Nat}{it:Addr}(I:Inv X Ju σ H s)(k:∀b o,b≠it->s.heap.get? b=some o->h'.get? b=some o)(hn:H it=none)(hL:it≠X.env.locals)
  (h1:it∈X.ex\/X.s₀.heap.objs.size<=it) (h2:∀x c,X.env.cells.lookup x=some c->c≠it) (h3:∀p∈X.pn++Ju,p.1≠it):Inv X Ju σ H { s with heap:=h',toks:=t' }:=by
 have nit:∀b u,H b=some u->b≠it:=fun b u e z=>by rw[z,hn]at e;cases e
 refine I.step (g':=s.gens) (d':=s.drawn) (ch:=[it]) (fun b hb=>?_) (fun b o _ _ hc e _=>k b o (fun z=>hc (by simp[z])) e) (fun b o _ _ hc e _=>⟨o.slots,k b o (fun z=>hc (by simp[z])) e⟩) (fun _ _ _ _ n=>n)
  (fun b o hc e=>⟨o,k b o (fun z=>hc (by simp[z])) e⟩) (fun _ _ e=>e) (fun _ _ _ e=>e) (fun _ _ _ _ e=>e) (fun m hm=>?_) (fun b u e=>?_) I.bare
 ·have e:b=it:=by simpa using hb
  subst e;exact⟨h1,hL,h2,h3⟩
 ·obtain⟨o,es,ep,ho,r⟩:=hm;exact⟨o,es,ep,k _ o (Vl hL) ho,r⟩
 ·refine(I.hok b u e).stay (fun c v hc q=>k c v ?_ q) (fun _ q=>q) (fun _ _ _ q=>q) fun _ _ q=>q;rcases hc with z | z
  ·rw[z];exact nit b u e
  ·exact nit c _ z
theorem Inv.tok(I:Inv X Ju σ H s)(t:Nat):Inv X Ju σ H { s with toks:=t }:=I.un (h':=s.heap) (t':=t) Un.refl I.hok
theorem Inv.kept(I:Inv X Ju σ H s)(k:∀b u,s.heap.get? b=some u->h'.get? b=some u):Inv X Ju σ H { s with heap:=h',toks:=t' }:=I.un (Un.kept k) (I.hok.kept k)
theorem Inv.laid{o:HO}{t':Nat}(I:Inv X Ju σ H s)(k:∀b u,s.heap.get? b=some u->h'.get? b=some u)(hp:s.heap.objs.size<=a)(new:bZ X.prog X.w (upd H a o) h' a o) :
  Inv X Ju σ (upd H a o) { s with heap:=h',toks:=t' }:=I.un (Un.laid k hp (I.hok.fresh hp)) (I.hok.laid k hp new)
theorem Inv.write{x e:Addr}{o:HO}{t':Nat}(I:Inv X Ju σ H s)(mu:Mut (H x))(he:e=x\/H e=some (.own x))(k:∀b u,b≠e->s.heap.get? b=some u->h'.get? b=some u)(heo:∃u,h'.get? e=some u)
  (new:bZ X.prog X.w (upd H x o) h' x o):Inv X Ju σ (upd H x o) { s with heap:=h',toks:=t' }:=I.un (Un.write mu he k heo) (I.hok.write mu he k heo new)
theorem Inv.Ek{MG:List (Addr×Obj)}(I:Inv X Ju σ H s)(h:∀p∈MG,s.heap.get? p.1=some p.2/\H p.1=none/\p.1≠X.env.locals/\p.1∉X.fs/\∀v,p.2.data≠.cell v):Inv X MG σ H s:=
 ⟨I.ok,I.os,I.bare,I.base,I.loc,I.cell,I.free,I.jW,fun p hp=>(Uy.mp hp).elim (fun z=>I.pin p (Va _ z)) (h p),I.hok,I.len⟩
theorem xW{N:List Str}(hN:N.Nodup){i j:Nat}(a:N[i]?=some x)(b:N[j]?=some x):i=j:=by obtain⟨h1,e1⟩:=UT.mp a;obtain⟨h2,e2⟩:=UT.mp b;exact(List.getElem_inj hN).mp (e1.trans e2.symm)
theorem uV{M:Model}{A:Around}{E:Value->Shared->Prop}{Q:Unit->Shared->Prop}(I:Inv X Ju σ H s)(hN:X.N.Nodup)(hi:X.N[i]?=some x)(hx:Loc X.env.scope x)(r:RelV v u)
  (h:∀s',Inv X Ju (σ.set i (some v)) H s'->(∃a,VX a s.heap s'.heap/\(a=X.env.locals\/X.env.cells.lookup x=some a))->Q () s') (hf:X.fn x=true\/X.env.scope.names.lookup x=some .local:=by trivial):wpAny M A (storeName X.env x u) Q E s:=by
 obtain⟨m,hn,hl⟩:=id I.loc;have hcls:(X.env.scope.kind == .class||(X.env.scope.kind == .module&&X.env.locals != X.env.globals))=false:=by rw[I.ok.kind];rfl
 have hiσ:i<σ.length:=by rw[I.len];exact(UT.mp hi).1
 have cne:=I.cne;have tracked:∀{a:Addr} {h':Heap},(∃o,s.heap.get? a=some o/\H a=none)->VX a s.heap h'->HOk X.prog X.w H h':=fun {a h'} ha hs b ob e=>by
  obtain⟨_,_,hfree⟩:=ha;refine(I.hok b ob e).stay (fun c w' hc q=>(hs.2 c ?_).trans q) (fun _ q=>q) (fun _ _ _ q=>q) fun _ _ q=>q;rintro rfl;rcases hc with rfl | hc
  ·rw[hfree]at e;cases e
  ·rw[hfree]at hc;cases hc
 rcases hx with hk | hk
 ·refine wpAny_storeName_local hk hn (fun h' hn' hs=>?_) hcls;obtain⟨oL,_,_,hoL,_⟩:=id hn;refine h _ ⟨I.ok,I.os,I.bare,⟨fun b o e n hb hx=>?_,fun b o e n hb hx=>?_,I.base.free,fun b o e hx=>?_,I.base.tups,I.base.uT,I.base.wH⟩,⟨_,hn',fun j y v' e1 e2 e3=>?_⟩,fun y c e=>?_,I.free,I.jW,fun p hp=>?_,tracked ⟨oL,hoL,I.free⟩ hs,by simpa using I.len⟩ ⟨_,hs,.inl rfl⟩
  ·exact(hs.2 b (UM (UJ (Uh e) I.ok.above))).trans (I.base.keep b o e n hb hx)
  ·obtain⟨sl,e1⟩:=I.base.slot b o e n hb hx;exact⟨sl,(hs.2 b (UM (UJ (Uh e) I.ok.above))).trans e1⟩
  ·obtain⟨o',e1⟩:=I.base.there b o e hx;exact⟨o',(hs.2 b (UM (UJ (Uh e) I.ok.above))).trans e1⟩
  ·by_cases hj:j=i
   ·subst hj;rw[hi]at e1;cases e1;rw[U1 hiσ]at e2;cases e2;exact⟨u,r,.inl ⟨hk,by simp⟩⟩
   ·rw[gV (Vl hj)]at e2;obtain⟨u',r',q⟩:=hl j y v' e1 e2 e3;refine⟨u',r',?_⟩;rcases q with⟨k,e⟩ | ⟨k,c,e,z⟩
    ·refine .inl ⟨k,?_⟩;have:y≠x:=fun e=>hj (xW hN e1 (e▸hi));simp[this,e]
    ·exact .inr ⟨k,c,e,z.sameBut hs (cne y c e)⟩
  ·obtain⟨w',z⟩:=I.cell y c e;exact⟨w',z.sameBut hs (cne y c e)⟩
  ·obtain⟨e,n,ne,nf,d⟩:=I.pin p hp;exact⟨(hs.2 p.1 ne).trans e,n,ne,nf,d⟩
 ·have hfn:X.fn x=true:=by
   rcases hf with z | z
   ·exact z
   ·rw[z]at hk;cases hk
  obtain⟨c,hc⟩:=I.ok.has x (.inl hk);obtain⟨w',z⟩:=I.cell x c hc;refine wpAny_storeName_cell I.ok.kind hk hc z (fun h' hc' hs=>?_);obtain⟨oc,hoc,SV⟩:=id z;refine h { s with heap:=h' } ⟨I.ok,I.os,I.bare,⟨fun b o e n hb hx=>?_,fun b o e n hb hx=>?_,I.base.free,fun b o e hx=>?_,I.base.tups,I.base.uT,I.base.wH⟩,⟨m,hn.sameBut hs (Vl (cne x c hc)),fun j y v' e1 e2 e3=>?_⟩,fun y c' e=>?_,I.free,I.jW,fun p hp=>?_,tracked ⟨oc,hoc,I.jW x c hc⟩ hs,by simpa using I.len⟩ ⟨c,hs,.inr hc⟩
  ·exact(hs.2 b (UM (UJ (Uh e) (I.ok.cab x c hfn hc)))).trans (I.base.keep b o e n hb hx)
  ·obtain⟨sl,e1⟩:=I.base.slot b o e n hb hx;exact⟨sl,(hs.2 b (UM (UJ (Uh e) (I.ok.cab x c hfn hc)))).trans e1⟩
  ·obtain⟨o',e1⟩:=I.base.there b o e hx;exact⟨o',(hs.2 b (UM (UJ (Uh e) (I.ok.cab x c hfn hc)))).trans e1⟩
  ·by_cases hj:j=i
   ·subst hj;rw[hi]at e1;cases e1;rw[U1 hiσ]at e2;cases e2;exact⟨u,r,.inr ⟨.inl hk,c,hc,hc'⟩⟩
   ·rw[gV (Vl hj)]at e2;obtain⟨u',r',q⟩:=hl j y v' e1 e2 e3;refine⟨u',r',?_⟩;rcases q with q | ⟨k,c',e,z'⟩
    ·exact .inl q
    ·refine .inr ⟨k,c',e,z'.sameBut hs ?_⟩;rintro rfl;exact hj (xW hN e1 (I.ok.inj _ _ _ e hc▸hi))
  ·by_cases hcc:c'=c
   ·subst hcc;exact⟨_,hc'⟩
   ·obtain⟨w2,z2⟩:=I.cell y c' e;exact⟨w2,z2.sameBut hs hcc⟩
  ·obtain⟨e,n,ne,nf,d⟩:=I.pin p hp;refine⟨(hs.2 p.1 ?_).trans e,n,ne,nf,d⟩;intro q;rw[q,hoc]at e;have q':oc=p.2:=Option.some.inj e;exact d w' (by rw[<- q'];exact SV)
theorem Bw{M:Model}{A:Around}{E:Value->Shared->Prop}{Q:Unit->Shared->Prop}(I:Inv X Ju σ H s)(hN:X.N.Nodup)(hi:X.N[i]?=some x)(hx:Loc X.env.scope x)(r:RelV v u)
  (h:∀s',Inv X Ju (σ.set i (some v)) H s'->Q () s') (hf:X.fn x=true\/X.env.scope.names.lookup x=some .local:=by trivial):wpAny M A (storeName X.env x u) Q E s:=
 uV I hN hi hx r (fun s' I' _=>h s' I') hf
theorem Inv.P_{s':Shared}(I:Inv X Ju σ H s)(ho:s'.os=s.os)(u:Un (frs X.stack) ch H H' s.heap s'.heap)(hok:HOk X.prog X.w H' s'.heap)(hg:AllBare s'.gens)
  (hch:∀b∈ch,(b∈X.ex\/X.s₀.heap.objs.size<=b)/\b≠X.env.locals/\(∀x c,X.env.cells.lookup x=some c->c≠b)/\∀p∈X.pn++Ju,p.1≠b):Inv X Ju σ H' s':=by
 obtain⟨h',g',d',t',o'⟩:=s';have e:o'=s.os:=ho;subst e;exact I.call (g':=g') (t':=t') (d':=d') u hok hg hch
end
end
noncomputable abbrev XK:=Value->Option Addr->Hp->Prop
noncomputable abbrev St:=List (Option V)
noncomputable abbrev VK:=V->Hp->Prop
noncomputable abbrev TE:=St->Hp->VK->Prop
noncomputable abbrev TT:=St->Hp->(Bool->Hp->Prop)->Prop
noncomputable abbrev TA:=St->Hp->(List V->Hp->Prop)->Prop
structure Ends where
 nx:St->Hp->Prop
 rt:VK
 bk:St->Hp->Prop:=fun _ _=>False
 ct:St->Hp->Prop:=fun _ _=>False
noncomputable abbrev TS:=Ends->St->Hp->Prop
def EP(X:Cx)(Ju:List (Addr×Obj))(σ:St)(Q:VK)(u:Value)(s':Shared):Prop:=∃v H',Inv X Ju σ H' s'/\RelV v u/\Q v H'
def TP(X:Cx)(Ju:List (Addr×Obj))(σ:St)(Q:Bool->Hp->Prop)(b:Bool)(s':Shared):Prop:=∃H',Inv X Ju σ H' s'/\Q b H'
def AP(X:Cx)(Ju:List (Addr×Obj))(σ:St)(Q:List V->Hp->Prop)(us:List Value)(s':Shared):Prop:=∃vs H',Inv X Ju σ H' s'/\Vals vs us/\Q vs H'
def SP(X:Cx)(Ju:List (Addr×Obj))(D:Ends)(f:Flow)(s':Shared):Prop:=
 match f with
 |.next=>∃σ' H',Inv X Ju σ' H' s'/\D.nx σ' H'
 |.brk=>∃σ' H',Inv X Ju σ' H' s'/\D.bk σ' H'
 |.cont=>∃σ' H',Inv X Ju σ' H' s'/\D.ct σ' H'
 |.ret u=>∃v σ' H',Inv X Ju σ' H' s'/\RelV v u/\D.rt v H'
def PE(X:Cx)(e:Expr)(t:TE):Prop:=
 ∀(Ju:List (Addr×Obj)) (s:Shared) (σ:St) (H:Hp) (Q:VK),Inv X Ju σ H s->t σ H Q->wpAny (model X.prog X.w) X.A (eval e X.env) (EP X Ju σ Q) X.xe s
def PT(X:Cx)(e:Expr)(t:TT):Prop:=
 ∀(Ju:List (Addr×Obj)) (s:Shared) (σ:St) (H:Hp) (Q:Bool->Hp->Prop),Inv X Ju σ H s->t σ H Q->wpAny (model X.prog X.w) X.A (isTrue e X.env (eval e X.env)) (TP X Ju σ Q) X.xe s
def PW(X:Cx)(e:Expr)(t:TT):Prop:=
 ∀(whole:Sem Value) (Ju:List (Addr×Obj)) (s:Shared) (σ:St) (H:Hp) (Q:Bool->Hp->Prop),Inv X Ju σ H s->t σ H Q->wpAny (model X.prog X.w) X.A (isTrue e X.env whole) (TP X Ju σ Q) X.xe s
theorem PW.pt{X:Cx}{e:Expr}{t:TT}(h:PW X e t):PT X e t:=h _
def PA(X:Cx)(es:List Expr)(t:TA):Prop:=
 ∀(pos:Pos) (Ju:List (Addr×Obj)) (s:Shared) (σ:St) (H:Hp) (Q:List V->Hp->Prop),Inv X Ju σ H s->t σ H Q->wpAny (model X.prog X.w) X.A (spliced (backTo pos (starEach es X.env))) (AP X Ju σ Q) X.xe s
def PS(X:Cx)(st:Stmt)(t:TS):Prop:=
 ∀(Ju:List (Addr×Obj)) (s:Shared) (σ:St) (H:Hp) (D:Ends),Inv X Ju σ H s->t D σ H->wpAny (model X.prog X.w) X.A (exec st X.env) (SP X Ju D) X.xe s
def PSs(X:Cx)(st:List Stmt)(t:TS):Prop:=
 ∀(Ju:List (Addr×Obj)) (s:Shared) (σ:St) (H:Hp) (D:Ends),Inv X Ju σ H s->t D σ H->wpAny (model X.prog X.w) X.A (execs st X.env) (SP X Ju D) X.xe s
theorem thn{α:Type}{t:Sem α}{Q Q':α->Shared->Prop}{M:Model}{A:Around}{E:Value->Shared->Prop}{s:Shared}(h:wpAny M A t Q E s)(hQ:∀a s,Q a s->Q' a s):wpAny M A t Q' E s:=wpAny_mono h hQ fun _ _ x=>x
section
variable{X:Cx}
section
variable{Q:Value->Shared->Prop}{Ju:List (Addr×Obj)}{u:Value}{x:Str}{s:Shared}{σ:St}{H:Hp}{t:TE}{v:V}
def Bx(i:Nat):TE:=fun σ H Q=>∃v,σ[i]?=some (some v)/\Q v H
def tC(v:V):TE:=fun _ H Q=>Q v H
theorem C3{i:Nat}{pos:Pos}(hN:X.N[i]?=some x)(hv:Vis X.env.scope x)(hd:(x == ("__debug__" : Str))=false:=by decide)(Sl:(x == ("__classdict__" : Str))=false:=by decide):PE X (.Name x pos) (Bx i):=by
 intro Ju s σ H Q I h;obtain⟨v,e,h⟩:=h;obtain⟨m,hn,hl⟩:=I.loc;obtain⟨u,r,l⟩:=hl i x v hN e hv;have R1:EP X Ju σ Q u s:=⟨v,H,I,r,h⟩
 rcases l with⟨hk,hm⟩ | ⟨hk,c,hc,hcell⟩
 ·exact wpAny_Name (wpAny_loadName_local I.ok.kind hk hn hm R1) hd
 ·rcases hk with hk | hk
  ·exact wpAny_Name (wpAny_loadName_cell I.ok.kind hk hc hcell R1) hd
  ·exact wpAny_Name (wpAny_loadName_free I.ok.kind hk hc hcell R1 Sl) hd
theorem G8{i j pos}:PE X (.Constant (.int i) j pos) (tC (.int i)):=fun _ _ _ H _ I h=>wpAny_Constant_int ⟨.int i,H,I.tok _,⟨_,rfl⟩,h⟩
theorem Qa{b j pos}:PE X (.Constant (.bool b) j pos) (tC (.bl b)):=fun _ _ _ H _ I h=>Constant_bool ⟨.bl b,H,I,rfl,h⟩
theorem NF{j pos}:PE X (.Constant .none j pos) (tC .non):=fun _ _ _ H _ I h=>Constant_none ⟨.non,H,I,rfl,h⟩
theorem NG{x j pos}:PE X (.Constant (.str x) j pos) (tC (.str x)):=fun _ _ _ H _ I h=>Calls.Constant_str ⟨.str x,H,I.tok _,⟨_,rfl⟩,h⟩
def Gl(X:Cx)(x:Str):Prop:=X.env.kindOf x=some .globalImplicit
theorem g8{E:Value->Shared->Prop}{pos:Pos}(I:Inv X Ju σ H s)(hg:Gl X x)(hm:X.mg x=some u)(h:Q u s)
  (hd:(x == ("__debug__" : Str))=false:=by decide):wpAny (model X.prog X.w) X.A (eval (.Name x pos) X.env) Q E s:=
 Calls.Name_function_global I.ok.kind hg (Calls.loadGlobal_global (by rw[I.ok.glob];exact I.mod.glob.keeps I.bk) hm h) hd
theorem xX{E:Value->Shared->Prop}{pos:Pos}(I:Inv X Ju σ H s)(hg:Gl X x)(hm:X.mg x=none)(hv:bootBuiltins x=some u)(h:Q u s)
  (hn:x ≠ "__name__" := by decide) (hd:(x == ("__debug__" : Str))=false:=by decide):wpAny (model X.prog X.w) X.A (eval (.Name x pos) X.env) Q E s:=by
 obtain⟨mb,h1,h2⟩:=I.mod.blt;exact Calls.Name_function_global I.ok.kind hg (Calls.loadGlobal_builtin (by rw[I.ok.glob];exact I.mod.glob.keeps I.bk) hm (by rw[I.ok.blt];exact h1.keeps I.bk) ((h2 x hn).trans hv) h) hd
theorem El{pos:Pos}(hg:Gl X x)(hm:X.mg x=some u)(r:RelV v u)(hd:(x == ("__debug__" : Str))=false:=by decide):PE X (.Name x pos) (tC v):=
 fun _ _ _ H _ I h=>g8 I hg hm ⟨v,H,I,r,h⟩ hd
theorem Em{pos:Pos}(hg:Gl X x)(hm:X.mg x=none)(hv:bootBuiltins x=some u)(r:RelV v u)(hn:x ≠ "__name__" := by decide)(hd:(x == ("__debug__" : Str))=false:=by decide):PE X (.Name x pos) (tC v):=
 fun _ _ _ H _ I h=>xX I hg hm hv ⟨v,H,I,r,h⟩ hn hd
variable{a b:Expr}{ta tb:TE}{pos:Pos}
def tB(t:TE):TT:=fun σ H Q=>t σ H fun x H1=>∃c,x=.bl c/\Q c H1
theorem NH{e:Expr}(h:PE X e t)(he:∀whole,isTrue e X.env whole=(do let v <- whole;standAt e.pos;holding [v] (truthy v)):=by intro _;rfl):PT X e (tB t):=by intro Ju s σ H Q I hw;refine isTrue_plain (thn (h Ju s σ H _ I hw) fun v s1 ⟨x,H1,I1,r1,q1⟩=>?_) (he _);obtain⟨d,rfl,q⟩:=q1;cases r1;exact wpAny_truthy_bool ⟨H1,I1,q⟩
variable{tA tB':TT}{L8:List Expr}
def dB(t u:TT):TT:=fun σ H Q=>t σ H fun c H1=>if c=true then u σ H1 Q else Q false H1
def tOr(t u:TT):TT:=fun σ H Q=>t σ H fun c H1=>if c=true then Q true H1 else u σ H1 Q
def bM(t:TT):TT:=fun σ H Q=>t σ H fun c H1=>Q (!c) H1
theorem pw_and1(ha:PT X a tA):PW X (.BoolOp .And [a] pos) tA:=by
 intro wh Ju s σ H Q I h;refine isTrue_and (thn (ha Ju s σ H Q I h) fun c s1 e=>?_);cases c with
 |true=>exact isTrue_and_nil e
 |false=>exact e
theorem pw_or1(ha:PT X a tA):PW X (.BoolOp .Or [a] pos) tA:=by
 intro wh Ju s σ H Q I h;refine isTrue_or (thn (ha Ju s σ H Q I h) fun c s1 e=>?_);cases c with
 |false=>exact isTrue_or_nil e
 |true=>exact e
theorem pw_and(ha:PT X a tA)(hb:PW X (.BoolOp .And (b::L8) pos) tB'):PW X (.BoolOp .And (a::b::L8) pos) (dB tA tB'):=by
 intro wh Ju s σ H Q I h;refine isTrue_and (thn (ha Ju s σ H _ I h) fun c s1 ⟨H1,I1,q1⟩=>?_);cases c with
 |true=>exact hb wh Ju s1 σ H1 Q I1 q1
 |false=>exact⟨H1,I1,q1⟩
theorem pw_or(ha:PT X a tA)(hb:PW X (.BoolOp .Or (b::L8) pos) tB'):PW X (.BoolOp .Or (a::b::L8) pos) (tOr tA tB'):=by
 intro wh Ju s σ H Q I h;refine isTrue_or (thn (ha Ju s σ H _ I h) fun c s1 ⟨H1,I1,q1⟩=>?_);cases c with
 |true=>exact⟨H1,I1,q1⟩
 |false=>exact hb wh Ju s1 σ H1 Q I1 q1
theorem NI(ha:PT X a tA):PT X (.UnaryOp .Not a pos) (bM tA):=by intro Ju s σ H Q I h;exact isTrue_not (ha Ju s σ H (fun c H1=>Q (!c) H1) I h)
def MH(ta tb:TE):TE:=fun σ H Q=>ta σ H fun x H1=>∃c,x=.bl c/\if c=true then tb σ H1 Q else Q (.bl false) H1
def Qc(ta tb:TE):TE:=fun σ H Q=>ta σ H fun x H1=>∃c,x=.bl c/\if c=true then Q (.bl true) H1 else tb σ H1 Q
def MK(ta:TE):TE:=fun σ H Q=>ta σ H fun x H1=>∃c,x=.bl c/\Q (.bl (!c)) H1
theorem NJ{op}(h:PE X a t):PE X (.BoolOp op [a] pos) t:=fun Ju s σ H Q I hw=>BoolOp_one (h Ju s σ H Q I hw)
theorem NK(ha:PE X a ta)(hb:PE X (.BoolOp .And (b::L8) pos) tb):PE X (.BoolOp .And (a::b::L8) pos) (MH ta tb):=by
 intro Ju s σ H Q I h;refine BoolOp_and (thn (ha Ju s σ H _ I h) fun v s1 ⟨x,H1,I1,r1,q1⟩=>?_);obtain⟨c,rfl,q1⟩:=q1;cases r1;refine wpAny_truthy_bool ?_;cases c with
 |true=>exact hb Ju s1 σ H1 Q I1 q1
 |false=>exact⟨.bl false,H1,I1,rfl,q1⟩
theorem Qd(ha:PE X a ta)(hb:PE X (.BoolOp .Or (b::L8) pos) tb):PE X (.BoolOp .Or (a::b::L8) pos) (Qc ta tb):=by
 intro Ju s σ H Q I h;refine BoolOp_or (thn (ha Ju s σ H _ I h) fun v s1 ⟨x,H1,I1,r1,q1⟩=>?_);obtain⟨c,rfl,q1⟩:=q1;cases r1;refine wpAny_truthy_bool ?_;cases c with
 |false=>exact hb Ju s1 σ H1 Q I1 q1
 |true=>exact⟨.bl true,H1,I1,rfl,q1⟩
theorem NL(ha:PE X a ta):PE X (.UnaryOp .Not a pos) (MK ta):=by intro Ju s σ H Q I h;refine UnaryOp_ (thn (ha Ju s σ H _ I h) fun v s1 ⟨x,H1,I1,r1,q1⟩=>?_);obtain⟨c,rfl,q1⟩:=q1;cases r1;exact not_of (wpAny_truthy_bool ⟨.bl (!c),H1,I1,rfl,q1⟩)
end
end
def SqL(K:gc)(H:Hp)(a:Addr)(xs:List V):Prop:=
 Rd H a (.lst xs) \/
  ∃(o:Obj) (its:Array Value) (n:Nat),K.lookup a=some o/\o.cls=.type "list" /\ o.dict=none/\o.data=.seq its n/\its.size<=sizeLine/\Vals xs its.toList
def SqT(K:gc)(H:Hp)(a:Addr)(xs:List V):Prop:=
 Rd H a (.tup xs) \/
  ∃(o:Obj) (its:Array Value) (n:Nat),K.lookup a=some o/\o.cls=.type "tuple" /\ o.data=.seq its n/\its.size<=sizeLine/\Vals xs its.toList
noncomputable def SW:Value->Option V
 |.none=>some .non
 |.bool b=>some (.bl b)
 |.int i _=>some (.int i)
 |.str x _=>some (.str x)
 |.bytes b _=>some (.byt b)
 |.float b _=>some (.flt b)
 |.ref a=>some (.ref a)
 |.type n=>some (.ty n)
 |_=>none
theorem RelV.abs{x:V}{u:Value}(r:RelV x u):SW u=some x:=by
 cases x with
 |non=>cases r;rfl
 |bl _=>cases r;rfl
 |int _=>obtain⟨t,rfl⟩:=r;rfl
 |str _=>obtain⟨t,rfl⟩:=r;rfl
 |byt _=>obtain⟨t,rfl⟩:=r;rfl
 |flt _=>obtain⟨t,rfl⟩:=r;rfl
 |ref _=>cases r;rfl
 |ty _=>cases r;rfl
theorem RelV.inj{x y:V}{u:Value}(r:RelV x u)(q:RelV y u):x=y:=Option.some.inj (r.abs.symm.trans q.abs)
theorem Vals.inj:∀{xs ys:List V} {us:List Value},Vals xs us->Vals ys us->xs=ys
 |_,_,_,.nil,.nil=>rfl
 |_,_,_,.cons r t,.cons r' t'=>by rw[r.inj r',Vals.inj t t']
section
variable{X:Cx}{Ju:List (Addr×Obj)}{σ:St}{H:Hp}{s:Shared}{a:Addr}{xs ys:List V}
theorem SqT.of{K:gc}(h:H a=some (.tup xs)):SqT K H a xs:=.inl (.inl h)
theorem Inv.list(I:Inv X Ju σ H s)(h:SqL X.K H a xs):∃its:List Value,Vals xs its/\PlainL s.heap a its.toArray/\xs.length<=sizeLine:=by
 rcases h with h | ⟨o,its,n,hk,hc,hd,hs,hz,r⟩
 ·obtain⟨z,its,n,r,e⟩:=h.ok I.hok;exact⟨its,r,⟨_,n,e,rfl,rfl,rfl⟩,z⟩
 ·refine⟨its.toList,r,⟨o,n,I.kIn a o hk,hc,hd,by simpa using hs⟩,?_⟩;have e:=r.length;simp only[Dp]at e
  lia
theorem Inv.tuple(I:Inv X Ju σ H s)(h:SqT X.K H a xs):∃its:List Value,Vals xs its/\IsTup s.heap a its.toArray/\xs.length<=sizeLine:=by
 rcases h with h | ⟨o,its,n,hk,hc,hs,hz,r⟩
 ·obtain⟨z,its,r,p⟩:=h.ok I.hok;exact⟨its,r,p,z⟩
 ·refine⟨its.toList,r,⟨o,I.kIn a o hk,hc,n,by simpa using hs⟩,?_⟩;have e:=r.length;simp only[Dp]at e
  lia
theorem Inv.G9(I:Inv X Ju σ H s)(h:SqL X.K H a xs)(h':SqL X.K H a ys):xs=ys:=by
 obtain⟨its,r,⟨o,n,e,_,_,d⟩,_⟩:=I.list h;obtain⟨its',r',⟨o',n',e',_,_,d'⟩,_⟩:=I.list h';rw[e]at e';cases e';rw[d]at d';injection d' with d1 _
 have:its=its':=by simpa using congrArg Array.toList d1
 subst this;exact r.inj r'
theorem Inv.Fx(I:Inv X Ju σ H s)(h:SqT X.K H a xs)(h':SqT X.K H a ys):xs=ys:=by
 obtain⟨its,r,⟨o,e,_,n,d⟩,_⟩:=I.tuple h;obtain⟨its',r',⟨o',e',_,n',d'⟩,_⟩:=I.tuple h';rw[e]at e';cases e';rw[d]at d';injection d' with d1 _
 have:its=its':=by simpa using congrArg Array.toList d1
 subst this;exact r.inj r'
end
noncomputable abbrev Cx.zE(X:Cx)(E:Value->Shared->Prop):Cx:={ X with xe:=E }
noncomputable abbrev Cx.nox(X:Cx):Cx:=X.zE fun _ _=>False
theorem Cx.Ok.zE{X:Cx}(ok:X.Ok)(E:Value->Shared->Prop):(X.zE E).Ok:=
 ⟨ok.mod,ok.kind,ok.glob,ok.blt,ok.above,ok.inj,ok.has,ok.cab,ok.hd,ok.frames,ok.stk,ok.exf,ok.bs,ok.bsz,ok.G7,ok.Ko,ok.uU,ok.frf⟩
theorem Cx.Ok.nU{X:Cx}{E:Value->Shared->Prop}(ok:(X.zE E).Ok):X.Ok:=
 ⟨ok.mod,ok.kind,ok.glob,ok.blt,ok.above,ok.inj,ok.has,ok.cab,ok.hd,ok.frames,ok.stk,ok.exf,ok.bs,ok.bsz,ok.G7,ok.Ko,ok.uU,ok.frf⟩
section
variable{X:Cx}{Ju:List (Addr×Obj)}{σ:St}{H:Hp}{s:Shared}{E:Value->Shared->Prop}
theorem Inv.zE(I:Inv X Ju σ H s)(E:Value->Shared->Prop):Inv (X.zE E) Ju σ H s:=⟨I.ok.zE E,I.os,I.bare,I.base,I.loc,I.cell,I.free,I.jW,I.pin,I.hok,I.len⟩
theorem Inv.nU(I:Inv (X.zE E) Ju σ H s):Inv X Ju σ H s:=⟨I.ok.nU,I.os,I.bare,I.base,I.loc,I.cell,I.free,I.jW,I.pin,I.hok,I.len⟩
theorem SP.nU{D:Ends}{f:Flow}{s':Shared}(h:SP (X.zE E) Ju D f s'):SP X Ju D f s':=by
 cases f with
 |next=>obtain⟨σ',H',I,q⟩:=h;exact⟨σ',H',I.nU,q⟩
 |brk=>obtain⟨σ',H',I,q⟩:=h;exact⟨σ',H',I.nU,q⟩
 |cont=>obtain⟨σ',H',I,q⟩:=h;exact⟨σ',H',I.nU,q⟩
 |ret u=>obtain⟨v,σ',H',I,r,q⟩:=h;exact⟨v,σ',H',I.nU,r,q⟩
theorem PSs.nox{st:List Stmt}{t:TS}(h:PSs X.nox st t):PSs X st t:=fun Ju s σ H D I hw=>wpAny_mono (h Ju s σ H D (I.zE _) hw) (fun _ _ q=>q.nU) fun _ _ z=>UH z
end
section
variable{X:Cx}{st:Stmt}{L8:List Stmt}{t u:TS}{e:Expr}{te:TE}{pos:Pos}
def G_:TS:=fun D σ H=>D.nx σ H
def Kp(t u:TS):TS:=fun D σ H=>t { D with nx:=u D } σ H
theorem En:PSs X [] G_:=fun _ _ σ H _ I h=>wpAny_execs_nil ⟨σ,H,I,h⟩
theorem nV(h1:PS X st t)(h2:PSs X L8 u):PSs X (st::L8) (Kp t u):=by
 intro Ju s σ H D I h;refine wpAny_execs_cons (thn (h1 Ju s σ H { D with nx:=u D } I h) fun f s1 q=>?_);cases f with
 |next=>obtain⟨σ',H',I',q⟩:=q;exact h2 Ju s1 σ' H' D I' q
 |ret v=>exact q
 |brk=>exact q
 |cont=>exact q
theorem Kq(h1:PS X st t):PSs X [st] t:=by
 intro Ju s σ H D I h;refine wpAny_execs_cons (thn (h1 Ju s σ H D I h) fun f s1 q=>?_);cases f with
 |next=>exact wpAny_execs_nil q
 |ret v=>exact q
 |brk=>exact q
 |cont=>exact q
theorem Inv.quiet{Ju:List (Addr×Obj)}{σ:St}{H:Hp}{s:Shared}(I:Inv X Ju σ H s):interactive X.env=false:=by simp[interactive,I.ok.kind]
def Eo(te:TE):TS:=fun D σ H=>te σ H fun _ H1=>D.nx σ H1
theorem tF(he:PE X e te)(hs:swapsWith e none pos.line X.env=pure false:=by rfl):PS X (.Expr e pos) (Eo te):=by intro Ju s σ H D I h;exact wpAny_Expr_any (thn (he Ju s σ H _ I h) fun v s1 ⟨x,H1,I1,r1,q1⟩=>⟨σ,H1,I1,q1⟩) I.quiet hs
def Qe(te:TE):TS:=fun D σ H=>te σ H D.rt
theorem NN(he:PE X e te):PS X (.Return (some e) pos) (Qe te):=by intro Ju s σ H D I h;exact wpAny_Return_some (thn (he Ju s σ H _ I h) fun v s1 ⟨x,H1,I1,r1,q1⟩=>⟨x,σ,H1,I1,r1,q1⟩)
def Qf(c:TT)(t u:TS):TS:=fun D σ H=>c σ H fun b H1=>if b=true then t D σ H1 else u D σ H1
theorem Hg{c:Expr}{a b:List Stmt}{tc:TT}(hc:PT X c tc)(ha:PSs X a t)(hb:PSs X b u):PS X (.If c a b pos) (Qf tc t u):=by
 intro Ju s σ H D I h;refine wpAny_If (thn (hc Ju s σ H _ I h) fun d s1 ⟨H1,I1,q1⟩=>?_);cases d with
 |true=>exact ha Ju s1 σ H1 D I1 q1
 |false=>exact hb Ju s1 σ H1 D I1 q1
def NO:TS:=fun _ _ _=>False
theorem Hh:PS X st NO:=fun _ _ _ _ _ _ h=>h.elim
end
noncomputable abbrev TG:=V->St->Hp->(St->Hp->Prop)->Prop
noncomputable abbrev TGs:=List V->St->Hp->(St->Hp->Prop)->Prop
def PG(X:Cx)(target:Expr)(t:TG):Prop:=
 ∀(Ju:List (Addr×Obj)) (s:Shared) (σ:St) (H:Hp) (v:V) (u:Value) (Q:St->Hp->Prop),Inv X Ju σ H s->RelV v u->t v σ H Q ->
  wpAny (model X.prog X.w) X.A (assign target X.env u) (fun _ s'=>∃σ' H',Inv X Ju σ' H' s'/\Q σ' H') X.xe s
def PGs(X:Cx)(ts:List Expr)(t:TGs):Prop:=
 ∀(Ju:List (Addr×Obj)) (s:Shared) (σ:St) (H:Hp) (vs:List V) (us:List Value) (Q:St->Hp->Prop),Inv X Ju σ H s->Vals vs us->t vs σ H Q ->
  wpAny (model X.prog X.w) X.A (assignInOrder ((assignEach ts X.env).map (·.2)) us) (fun _ s'=>∃σ' H',Inv X Ju σ' H' s'/\Q σ' H') X.xe s
section
variable{X:Cx}{pos:Pos}
section
variable{es:List Expr}{e:Expr}{x:Str}{i:Nat}{te:TE}
def By(i:Nat):TG:=fun v σ H Q=>Q (σ.set i (some v)) H
theorem AE(hN:X.N.Nodup)(hi:X.N[i]?=some x)(hx:Loc X.env.scope x)(hf:X.fn x=true\/X.env.scope.names.lookup x=some .local:=by trivial):PG X (.Name x pos) (By i):=by intro Ju s σ H v u Q I r h;exact wpAny_assign_Name (Bw I hN hi hx r (fun s' I'=>⟨_,H,I',h⟩) hf)
def Qg:TGs:=fun vs σ H Q=>vs=[]/\Q σ H
def ML(t:TG)(u:TGs):TGs:=fun vs σ H Q=>∃v r,vs=v::r/\t v σ H fun σ' H'=>u r σ' H' Q
theorem Kr:PGs X [] Qg:=by intro Ju s σ H vs us Q I r h;obtain⟨e,h⟩:=h;subst e;cases r;exact assignInOrder_nil ⟨σ,H,I,h⟩
theorem Hj{t:TG}{u:TGs}(h1:PG X e t)(h2:PGs X es u)
  (hs:(assignEach (e::es) X.env).map (·.2)=assign e X.env::(assignEach es X.env).map (·.2):=by rfl):PGs X (e::es) (ML t u):=by
 intro Ju s σ H vs us Q I r h;obtain⟨v,vr,e1,h⟩:=h;subst e1;cases r with
 |cons r rr=>rw[hs];refine assignInOrder_cons (thn (h1 Ju s σ H _ _ _ I r h) fun _ s1 ⟨σ1,H1,I1,q1⟩=>?_);exact h2 Ju s1 σ1 H1 _ _ Q I1 rr q1
def Qh(K:gc)(n:Nat)(t:TGs):TG:=fun v σ H Q=>∃a xs,v=.ref a/\SqT K H a xs/\xs.length=n/\t xs σ H Q
theorem NP{k:Nat}{t:TGs}{n:Nat}(hc:X.calm=true)(h:PGs X es t)
  (hn:(assignEach es X.env).length=n:=by rfl) (hst:(assignEach es X.env).findIdx? (·.1)=none:=by rfl):PG X (.Tuple es k pos) (Qh X.K n t):=by
 intro Ju s σ H v u Q I r hw;obtain⟨a,xs,e1,hq,hl,hw⟩:=hw;subst e1;cases r;obtain⟨its,rv,ht,hz⟩:=I.tuple hq;refine assign_Tuple_tuple (I.ok.hd hc) ht (by simp[hn,<- hl,rv.length]) hst fun h' hx=>?_;have I1:Inv X Ju σ H { s with heap:=h' }:=I.kept (t':=s.toks) fun b o e=>hx b o (UM (Uh e)) e;exact h Ju _ σ H xs _ Q I1 (by simpa using rv) hw
def Ks(te:TE)(g:TG):TS:=fun D σ H=>te σ H fun x H1=>g x σ H1 D.nx
theorem NQ{tg e:Expr}{g:TG}(he:PE X e te)(hg:PG X tg g)(hs:swapsWithSole [tg] e pos.line X.env=pure false:=by rfl)(hw:swappedStores [tg] e X.env=pure none:=by rfl)
  (h1:(assignEach [tg] X.env).map (·.2)=[assign tg X.env]:=by rfl):PS X (.Assign [tg] e pos) (Ks te g):=by
 intro Ju s σ H D I h;refine wpAny_Assign_stores (thn (he Ju s σ H _ I h) fun v s1 ⟨x,H1,I1,r1,q1⟩=>?_) hs hw;rw[h1];exact thn (hg Ju s1 σ H1 x v _ I1 r1 q1) fun _ s2 q=>q
theorem NR{pos':Pos}(hN:X.N.Nodup)(hi:X.N[i]?=some x)(hx:Loc X.env.scope x)(he:PE X e te)(hs:swapsWith e (some (.Name x pos')) pos.line X.env=pure false:=by rfl)(hf:X.fn x=true\/X.env.scope.names.lookup x=some .local:=by trivial) :
  PS X (.Assign [.Name x pos'] e pos) (Ks te (By i)):=by
 intro Ju s σ H D I h;refine wpAny_Assign_Name (thn (he Ju s σ H _ I h) fun v s1 ⟨y,H1,I1,r1,q1⟩=>?_) hs;exact Bw I1 hN hi hx r1 (fun s2 I2=>⟨_,H1,I2,q1⟩) hf
end
end
section
variable{X:Cx}{pos:Pos}
def Hl(c:TT)(tb:TS):TS:=fun D σ H=>∃W:Nat->St->Hp->Prop,(∃m,W m σ H)/\∀m σ H,W m σ H ->
 c σ H fun b H1=>if b=true then ∃N:St->Hp->Prop,(∀σ' H',N σ' H'->∃m',m'<m/\W m' σ' H')/\tb { D with nx:=N,ct:=N,bk:=D.nx } σ H1 else D.nx σ H1
theorem Ho{c:Expr}{body:List Stmt}{tc:TT}{tb:TS}(hp:PassesOwn (model X.prog X.w) X.A X.env X.xe)(hc:PT X c tc)(hb:PSs X body tb):PS X (.While c body [] pos) (Hl tc tb):=by
 intro Ju s σ H D I h;obtain⟨W,⟨m0,w0⟩,turn⟩:=h;refine wpAny_While (codeAny_whileLoop (fun n s'=>∃σ' H',Inv X Ju σ' H' s'/\W n σ' H') ?_ m0 ⟨σ,H,I,w0⟩);rintro n s1 ⟨σ1,H1,I1,w1⟩;refine wpAny_passesOwn hp (thn (hc Ju s1 σ1 H1 _ I1 (turn n σ1 H1 w1)) fun b s2 ⟨H2,I2,q2⟩=>?_);cases b with
 |true=>
  obtain⟨N,hN,q2⟩:=q2;rw[if_pos rfl];refine wpAny_passesOwn hp (thn (hb Ju s2 σ1 H2 _ I2 q2) fun f s3 q3=>?_);cases f with
  |next=>obtain⟨σ3,H3,I3,n3⟩:=q3;obtain⟨m',hm,w3⟩:=hN σ3 H3 n3;exact⟨m',hm,σ3,H3,I3,w3⟩
  |cont=>obtain⟨σ3,H3,I3,n3⟩:=q3;obtain⟨m',hm,w3⟩:=hN σ3 H3 n3;exact⟨m',hm,σ3,H3,I3,w3⟩
  |brk=>exact q3
  |ret v=>exact q3
 |false=>rw[if_neg UZ];exact wpAny_execs_nil ⟨σ1,H2,I2,q2⟩
end
section
variable{P:Program}{tg:Expr}{w:World}{s:Shared}{K:gc}
structure It where
 go:Nat->Hp->Prop
 yld:Nat->Hp->V->Hp->Prop
 stop:Nat->Hp->Prop
def BA(X:Cx)(Ju:List (Addr×Obj))(H:Hp)(b:Addr):Prop:=
 H b=none/\b≠X.env.locals/\b∉X.fs/\(b∈X.ex\/X.s₀.heap.objs.size<=b)/\(∀x c,X.env.cells.lookup x=some c->c≠b)/\∀p∈X.pn++Ju,p.1≠b
theorem Inv.NS{X:Cx}{Ju:List (Addr×Obj)}{σ:St}{H H':Hp}{b:Addr}(I:Inv X Ju σ H s)(hb:s.heap.objs.size<=b)(hn:H' b=none):BA X Ju H' b:=by
 refine⟨hn,Xj (UJ I.lt hb),I.SS hb,.inr (Nat.le_trans I.sz hb),fun x c e z=>?_,fun p hp z=>?_⟩
 ·obtain⟨v,q⟩:=I.cell x c e;exact absurd (UJ q.lt (by rw[z];exact hb)) (V1 _)
 ·exact absurd (UJ (Uh (I.pin p hp).1) (by rw[z];exact hb)) (V1 _)
structure Turn(P:Program)(w:World)(K:gc)(tg:Expr)(J:It)(fp:List Addr)(it:Addr)(tn:Nat->Heap->Prop):Prop where
 mem:it∈fp
 obj:∀i h,tn i h->∀b∈fp,∃o,h.get? b=some o/\∀v,o.data≠.cell v
 keep:∀i h h',tn i h->(∀b∈fp,∀o,h.get? b=some o->h'.get? b=some o)->tn i h'
 item:∀(X:Cx),X.prog=P->X.w=w->X.K=K->X.calm=true->∀(i:Nat) (Ju:List (Addr×Obj)) (s:Shared) (σ:St) (H:Hp) (E:Value->Shared->Prop),Inv X Ju σ H s->(∀b∈fp,BA X Ju H b)->tn i s.heap->J.go i H ->
  wpAny (model P w) X.A (pyNext (.ref it)) (fun r s1=>∃ u,r=some u ∧
   wpAny (model P w) X.A (letOwnedTupleGo tg (.ref it) u) (fun _ s2=>∃x H',Inv X Ju σ H' s2/\RelV x u/\J.yld i H x H'/\tn (i+1) s2.heap/\∀b∈fp,H' b=none) E s1) E s
 done:∀(X:Cx),X.prog=P->X.w=w->X.K=K->X.calm=true->∀(i:Nat) (Ju:List (Addr×Obj)) (s:Shared) (σ:St) (H:Hp) (E:Value->Shared->Prop),Inv X Ju σ H s->(∀b∈fp,BA X Ju H b)->tn i s.heap->J.stop i H ->
  wpAny (model P w) X.A (pyNext (.ref it)) (fun r s1=>r=none/\Inv X Ju σ H s1) E s
 self:∀(A:Around) (i:Nat) (s:Shared) (Q:Value->Shared->Prop) (E:Value->Shared->Prop),tn i s.heap->Q (.ref it) s->wpAny (model P w) A (pyIter (.ref it)) Q E s
noncomputable abbrev TI:=St->Hp->(It->Hp->Prop)->Prop
def PIE(X:Cx)(Ju:List (Addr×Obj))(σ:St)(tg:Expr)(R:It->Hp->Prop)(itv:Value)(s2:Shared):Prop:=
 ∃(it:Addr) (fp:List Addr) (tn:Nat->Heap->Prop) (J:It) (H':Hp),itv=.ref it/\Inv X Ju σ H' s2/\Turn X.prog X.w X.K tg J fp it tn/\tn 0 s2.heap/\(∀b∈fp,BA X Ju H' b)/\R J H'
def PI(X:Cx)(tg iter:Expr)(wi:TI):Prop:=
 ∀(Ju:List (Addr×Obj)) (s:Shared) (σ:St) (H:Hp) (R:It->Hp->Prop),Inv X Ju σ H s->wi σ H R ->
  wpAny (model X.prog X.w) X.A (eval iter X.env) (fun v s1=>wpAny (model X.prog X.w) X.A (pyIter v) (PIE X Ju σ tg R) X.xe s1) X.xe s
theorem Hq{M:Model}{A:Around}{E:Value->Shared->Prop}{tg:Expr}{it:Addr}{u:Value}{o:Obj}{n:String}{vs:Array Value}{Q:Unit->Shared->Prop}(ho:s.heap.get? it=some o)(hc:o.cls=.type n)(hd:o.data=.fields vs)
  (hn:["enumerate","zip","dict_itemiterator","dict_reverseitemiterator","odict_iterator","itertools.zip_longest","itertools.pairwise"].contains n=false) (hQ:Q () s):wpAny M A (letOwnedTupleGo tg (.ref it) u) Q E s:=by
 unfold letOwnedTupleGo;cases tg<;>first
  |exact wpAny_pure hQ
  | (cases u<;>first
    |exact wpAny_pure hQ
    | (refine wpAny_bind (wpAny_load ho ?_)
       rw[hc,hd];show wpAny M A (if (["enumerate","zip","dict_itemiterator","dict_reverseitemiterator","odict_iterator","itertools.zip_longest","itertools.pairwise"].contains n&&vs[0]? == some (rawInt _))=true then _ else _) Q E s;rw[if_neg (by intro h;rw[hn,X5]at h;cases h)];exact wpAny_pure hQ))
noncomputable def Itl(K:gc)(a:Addr):It:=
 ⟨fun i H=>∃xs x,SqL K H a xs/\xs[i]?=some x,fun i H x H'=>H'=H/\∀xs,SqL K H a xs->xs[i]?=some x,fun i H=>∃xs,SqL K H a xs/\xs.length<=i⟩
noncomputable def Itt(K:gc)(a:Addr):It:=
 ⟨fun i H=>∃xs x,SqT K H a xs/\xs[i]?=some x,fun i H x H'=>H'=H/\∀xs,SqT K H a xs->xs[i]?=some x,fun i H=>∃xs,SqT K H a xs/\xs.length<=i⟩
noncomputable def Itr(lo:Int)(n:Nat):It:=⟨fun i _=>i<n,fun i H x H'=>H'=H/\x=.int (lo+i),fun i _=>n<=i⟩
theorem Fy(a it:Addr):Turn P w K tg (Itl K a) [it] it (fun i h=>h.IsListIter it a i) where
 mem:=by simp
 obj:=fun i h st b hb=>by
  have e:b=it:=by simpa using hb
  subst e;obtain⟨o,e,c,d⟩:=st;exact⟨o,e,fun v z=>by rw[d]at z;cases z⟩
 keep:=fun i h h' st k=>st.at fun o e=>k it (by simp) o e
 item:=by intro X hP hw hK hc i Ju s σ H E I hf st hg;subst hP hw hK;obtain⟨xs,x,hq,hx⟩:=hg;obtain⟨its,rv,p,hz⟩:=I.list hq;obtain⟨u,hu,ru⟩:=rv.get hx;obtain⟨f0,f1,f2,f3,f4,f5⟩:=hf it (by simp);refine wpAny_pyNext_list_item st p.isList (x:=u) (by simpa using hu) fun h' st' sb=>?_;have I1:Inv X Ju σ H { s with heap:=h' }:=I.turned (t':=s.toks) (fun b o hb e=>(sb.2 b hb).trans e) f0 f1 f3 f4 f5;obtain⟨o,e,c,d⟩:=id st';exact⟨u,rfl,Hq (s:={ s with heap:=h' }) e c d (by decide) ⟨x,H,I1,ru,⟨rfl,fun ys hy=>by rw[I.G9 hy hq];exact hx⟩,st',fun b hb=>(hf b hb).1⟩⟩
 done:=by intro X hP hw hK hc i Ju s σ H E I hf st hg;subst hP hw hK;obtain⟨xs,hq,hx⟩:=hg;obtain⟨its,rv,p,hz⟩:=I.list hq;obtain⟨f0,f1,f2,f3,f4,f5⟩:=hf it (by simp);have hl:=rv.length;exact wpAny_pyNext_list_end (I.ok.hd hc) st p.isList (by simp;lia) fun h' eb=>⟨rfl,I.turned (t':=s.toks) (fun b o hb e=>eb b o hb e) f0 f1 f3 f4 f5⟩
 self:=fun _ _ _ _ _ st h=>wpAny_pyIter_listiter st h
theorem C4(a it:Addr):Turn P w K tg (Itt K a) [it] it (fun i h=>h.IsTupleIter it a i) where
 mem:=by simp
 obj:=fun i h st b hb=>by
  have e:b=it:=by simpa using hb
  subst e;obtain⟨o,e,c,d⟩:=st;exact⟨o,e,fun v z=>by rw[d]at z;cases z⟩
 keep:=fun i h h' st k=>st.at fun o e=>k it (by simp) o e
 item:=by intro X hP hw hK hc i Ju s σ H E I hf st hg;subst hP hw hK;obtain⟨xs,x,hq,hx⟩:=hg;obtain⟨its,rv,p,hz⟩:=I.tuple hq;obtain⟨u,hu,ru⟩:=rv.get hx;obtain⟨f0,f1,f2,f3,f4,f5⟩:=hf it (by simp);refine wpAny_pyNext_tuple_item st (show s.heap.IsTuple a its.toArray from p) (x:=u) (by simpa using hu) fun h' st' sb=>?_;have I1:Inv X Ju σ H { s with heap:=h' }:=I.turned (t':=s.toks) (fun b o hb e=>(sb.2 b hb).trans e) f0 f1 f3 f4 f5;obtain⟨o,e,c,d⟩:=id st';exact⟨u,rfl,Hq (s:={ s with heap:=h' }) e c d (by decide) ⟨x,H,I1,ru,⟨rfl,fun ys hy=>by rw[I.Fx hy hq];exact hx⟩,st',fun b hb=>(hf b hb).1⟩⟩
 done:=by intro X hP hw hK hc i Ju s σ H E I hf st hg;subst hP hw hK;obtain⟨xs,hq,hx⟩:=hg;obtain⟨its,rv,p,hz⟩:=I.tuple hq;obtain⟨f0,f1,f2,f3,f4,f5⟩:=hf it (by simp);have hl:=rv.length;exact wpAny_pyNext_tuple_end (I.ok.hd hc) st (show s.heap.IsTuple a its.toArray from p) (by simp;lia) fun h' eb=>⟨rfl,I.turned (t':=s.toks) (fun b o hb e=>eb b o hb e) f0 f1 f3 f4 f5⟩
 self:=fun _ _ _ _ _ st h=>wpAny_pyIter_tupleiter st h
theorem C5(it:Addr)(lo:Int)(n:Nat):Turn P w K tg (Itr lo n) [it] it (fun i h=>IsRangeIter h it (lo+(i:Nat)*1) ((n:Int)-(i:Nat)) 1) where
 mem:=by simp
 obj:=fun i h st b hb=>by
  have e:b=it:=by simpa using hb
  subst e;exact ⟨_,st,fun v z=>by have z':Xz _=Data.cell v:=z;cases z'⟩
 keep:=fun i h h' st k=>k it (by simp) _ st
 item:=by intro X hP hw hK hc i Ju s σ H E I hf st hg;subst hP hw hK;obtain⟨f0,f1,f2,f3,f4,f5⟩:=hf it (by simp);have W:=Walks.range (prog:=X.prog) (w:=X.w) (I.ok.hd hc) it lo 1 n;refine W.item i s _ _ hg st fun v h' tk hv st' kk=>?_;obtain⟨t,rfl⟩:=hv;have I1:Inv X Ju σ H { s with heap:=h',toks:=tk }:=I.turned (fun b o hb e=>kk b o (by simpa using hb) e) f0 f1 f3 f4 f5;refine⟨_,rfl,Hq (s:={ s with heap:=h',toks:=tk }) (n := "range_iterator") st' rfl rfl (by decide) ⟨.int (lo+i),H,I1,⟨t,?_⟩,⟨rfl,rfl⟩,st',fun b hb=>(hf b hb).1⟩⟩;rw[Int.mul_one]
 done:=by intro X hP hw hK hc i Ju s σ H E I hf st hg;subst hP hw hK;obtain⟨f0,f1,f2,f3,f4,f5⟩:=hf it (by simp);exact wpAny_pyNext_range_end (I.ok.hd hc) st (by have:n<=i:=hg;lia) fun h' eb=>⟨rfl,I.turned (t':=s.toks) (fun b o hb e=>eb b o hb e) f0 f1 f3 f4 f5⟩
 self:=fun _ _ _ _ _ st h=>wpAny_pyIter_rangeiter st h
end
section
variable{X:Cx}{tg:Expr}
section
variable{Ju:List (Addr×Obj)}{fp:List Addr}{s:Shared}{σ:St}{H:Hp}{l:Expr}{h:Heap}{tl:TE}{ta:TA}
def BB(K:gc)(tl:TE):TI:=fun σ H R=>tl σ H fun x H1=>∃a,x=.ref a/\(∃xs,SqL K H1 a xs)/\R (Itl K a) H1
def Hr(K:gc)(tl:TE):TI:=fun σ H R=>tl σ H fun x H1=>∃a,x=.ref a/\(∃xs,SqT K H1 a xs)/\R (Itt K a) H1
theorem Ep(hl:PE X l tl):PI X tg l (BB X.K tl):=by
 intro Ju s σ H R I h;refine thn (hl Ju s σ H _ I h) fun v s1 ⟨x,H1,I1,r1,q1⟩=>?_;obtain⟨a,e,⟨xs,hq⟩,q⟩:=q1;subst e;cases r1;obtain⟨its,rv,p,hz⟩:=I1.list hq;refine wpAny_pyIter_list p.isList ?_;refine⟨s1.heap.objs.size,[s1.heap.objs.size],_,_,H1,rfl,I1.kept (t':=s1.toks) fun b o e=>Dk _ e,Fy a _,⟨_,UW _ rfl,rfl,rfl⟩,fun b hb=>?_,q⟩;have e:b=s1.heap.objs.size:=by simpa using hb
 subst e;exact I1.NS (Nat.le_refl _) (I1.hok.fresh (Nat.le_refl _))
theorem Ht(hl:PE X l tl):PI X tg l (Hr X.K tl):=by
 intro Ju s σ H R I h;refine thn (hl Ju s σ H _ I h) fun v s1 ⟨x,H1,I1,r1,q1⟩=>?_;obtain⟨a,e,⟨xs,hq⟩,q⟩:=q1;subst e;cases r1;obtain⟨its,rv,p,hz⟩:=I1.tuple hq;refine wpAny_pyIter_tuple (show s1.heap.IsTuple a its.toArray from p) ?_;refine⟨s1.heap.objs.size,[s1.heap.objs.size],_,_,H1,rfl,I1.kept (t':=s1.toks) fun b o e=>Dk _ e,C4 a _,⟨_,UW _ rfl,rfl,rfl⟩,fun b hb=>?_,q⟩;have e:b=s1.heap.objs.size:=by simpa using hb
 subst e;exact I1.NS (Nat.le_refl _) (I1.hok.fresh (Nat.le_refl _))
theorem BC{R:It->Hp->Prop}{E:Value->Shared->Prop}{lo hi:Int}{t u v:Tok}{tk:Nat}(I:Inv X Ju σ H s)(h1:-(2 ^ 62)<=lo)(h2:lo<2 ^ 62)(h3:-(2 ^ 62)<=hi)(h4:hi<2 ^ 62)
  (q:R (Itr lo (hi-lo).toNat) H):wpAny (model X.prog X.w) X.A (pyIter (.ref s.heap.objs.size)) (PIE X Ju σ tg R) E { s with heap:=s.heap.push { cls:=.type "range",data:=.fields #[.int lo t,.int hi u,.int 1 v] },toks:=tk }:=by
 refine wpAny_pyIter_range (IsRange.new ..) (small_one h1 h2 h3 h4) ?_;have I1:Inv X Ju σ H { s with heap:=s.heap.push { cls:=.type "range",data:=.fields #[.int lo t,.int hi u,.int 1 v] },toks:=tk }:=I.kept fun b o e=>Dk _ e;refine ⟨(s.heap.push { cls:=.type "range",data:=.fields #[.int lo t,.int hi u,.int 1 v] }).objs.size,[(s.heap.push { cls:=.type "range",data:=.fields #[.int lo t,.int hi u,.int 1 v] }).objs.size],_,_,H,rfl,
  I1.kept (t':=tk) fun b o e=>Dk _ e,C5 _ lo (hi-lo).toNat,?_,fun b hb=>?_,q⟩
 ·have e1:lo+((0:Nat):Int)*1=lo:=by simp
  have e2:(((hi-lo).toNat:Nat):Int)-((0:Nat):Int)=Builtin.Range.rangeSize lo hi 1:=by rw[rangeSize_one];split<;>lia
  show IsRangeIter _ _ (lo+((0:Nat):Int)*1) ((((hi-lo).toNat:Nat):Int)-((0:Nat):Int)) 1;rw[e1,e2];exact UW _ rfl
 ·have e:b=(s.heap.push { cls:=.type "range",data:=.fields #[.int lo t,.int hi u,.int 1 v] }).objs.size:=by simpa using hb
  subst e;exact I1.NS (Nat.le_refl _) (I1.hok.fresh (Nat.le_refl _))
def MM(ta:TA):TI:=fun σ H R=>ta σ H fun vs H1=>∃j:Int,vs=[.int j]/\-(2 ^ 62)<=j/\j<2 ^ 62/\R (Itr 0 j.toNat) H1
def MN(ta:TA):TI:=fun σ H R=>ta σ H fun vs H1=>∃i j:Int,vs=[.int i,.int j]/\(-(2 ^ 62)<=i/\i<2 ^ 62/\-(2 ^ 62)<=j/\j<2 ^ 62)/\R (Itr i (j-i).toNat) H1
theorem Fz{a:Expr}{p pos:Pos}(hg:Gl X "range")(hm:X.mg "range" = none)(ha:PA X [a] ta)(hs:starEach [a] X.env=[(false,eval a X.env)]:=by rfl):PI X tg (.Call (.Name "range" p) [a] [] pos) (MM ta):=by
 intro Ju s σ H R I h;refine Call_ (xX I hg hm boot_range (Wy (thn (ha pos Ju s σ H _ I h) fun us s1 ⟨vs,H1,I1,r1,q1⟩=>?_) hs rfl));obtain⟨j,e,q1,q2,q⟩:=q1;subst e;cases r1 with
 |cons r rr=>cases rr;obtain⟨t,rfl⟩:=r;exact call_range_1 (BC I1 (by lia) (by lia) q1 q2 (by simpa using q))
theorem FA{a b:Expr}{p pos:Pos}(hg:Gl X "range")(hm:X.mg "range" = none)(ha:PA X [a,b] ta)(hs:starEach [a,b] X.env=[(false,eval a X.env),(false,eval b X.env)]:=by rfl)(hs2:starEach [b] X.env=[(false,eval b X.env)]:=by rfl) :
  PI X tg (.Call (.Name "range" p) [a,b] [] pos) (MN ta):=by
 intro Ju s σ H R I h;refine Call_ (xX I hg hm boot_range (Wy (thn (ha pos Ju s σ H _ I h) fun us s1 ⟨vs,H1,I1,r1,q1⟩=>?_) (by rw[hs,hs2]) (by rw[hs2];rfl)));obtain⟨i,j,e,⟨q1,q2,q3,q4⟩,q⟩:=q1;subst e;cases r1 with
 |cons r rr=>
  cases rr with
  |cons r' rr=>cases rr;obtain⟨t,rfl⟩:=r;obtain⟨t',rfl⟩:=r';exact call_range_2 (BC I1 q1 q2 q3 q4 q)
def NT(wi:TI)(g:TG)(tb:TS):TS:=fun D σ H=>wi σ H fun J H1=>∃W:Nat->Nat->St->Hp->Prop,(∃m,W 0 m σ H1)/\∀i m σ H,W i m σ H ->
 (J.stop i H/\D.nx σ H)\/(J.go i H/\∃N:St->Hp->Prop,(∀σ' H',N σ' H'->∃m',m'<m/\W (i+1) m' σ' H')/\∀x H',J.yld i H x H'->g x σ H' fun σ2 H2=>tb { D with nx:=N,ct:=N,bk:=D.nx } σ2 H2)
noncomputable def xY(fp:List Addr)(h:Heap):List (Addr×Obj):=fp.filterMap fun b=>(h.get? b).map fun o=>(b,o)
theorem mD{b:Addr}{o:Obj}(hb:b∈fp)(e:h.get? b=some o):(b,o)∈xY fp h:=VY.mpr ⟨b,hb,by rw[e];rfl⟩
theorem FD{p:Addr×Obj}(hp:p∈xY fp h):p.1∈fp/\h.get? p.1=some p.2:=by
 obtain⟨b,hb,e⟩:=VY.mp hp;cases q:h.get? b with
 |none=>rw[q]at e;cases e
 |some o=>rw[q]at e;have e':(b,o)=p:=Option.some.inj e;subst e';exact⟨hb,q⟩
theorem Inv.pinned(I:Inv X Ju σ H s)(hf:∀b∈fp,BA X Ju H b)(ho:∀b∈fp,∃o,s.heap.get? b=some o/\∀v,o.data≠.cell v):Inv X (Ju++xY fp s.heap) σ H s:=
 I.Ek fun p hp=>(Uy.mp hp).elim (fun z=>I.pin p (UD _ z)) fun z=>by obtain⟨hb,e⟩:=FD z;obtain⟨f0,f1,f2,_⟩:=hf p.1 hb;obtain⟨o,e',d⟩:=ho p.1 hb;rw[e]at e';cases e';exact⟨e,f0,f1,f2,d⟩
theorem Inv.tG{Ju pl:List (Addr×Obj)}(I:Inv X (Ju++pl) σ H s):Inv X Ju σ H s:=I.Ek fun p hp=>I.pin p (UD _ (Va _ hp))
theorem Hu{iter:Expr}{body:List Stmt}{wi:TI}{g:TG}{tb:TS}{pos:Pos}(hp:PassesOwn (model X.prog X.w) X.A X.env X.xe)(hc:X.calm=true)(hi:PI X tg iter wi)(hg:PG X tg g)(hb:PSs X body tb)
  (hs:∀x,foldedSetIterable iter X.env x=pure x:=by intro _;rfl):PS X (.For tg iter body [] pos) (NT wi g tb):=by
 intro Ju s σ H D I h;refine wpAny_For (thn (hi Ju s σ H _ I h) fun v s1 h1=>thn h1 fun itv s2 h2=>?_) hs;obtain⟨it,fp,tn,J,H2,e,I2,T,st2,f2,W,⟨m0,w0⟩,turn⟩:=h2;subst e;have stat:∀{H':Hp},(∀b∈fp,H' b=none)->∀b∈fp,BA X Ju H' b:=fun hn b hb=>⟨hn b hb,(f2 b hb).2⟩;refine codeAny_forLoop_any (fun n s'=>∃i σ' H',Inv X Ju σ' H' s'/\tn i s'.heap/\(∀b∈fp,H' b=none)/\W i n σ' H') ?_ m0 ⟨0,σ,H2,I2,st2,fun b hb=>(f2 b hb).1,w0⟩;rintro n s3 ⟨i,σ3,H3,I3,st3,fr3,w3⟩;rcases turn i n σ3 H3 w3 with⟨stop,qn⟩ | ⟨go,N,hN,step⟩
 ·refine wpAny_passesOwn hp (thn (T.done X rfl rfl rfl hc i Ju s3 σ3 H3 X.xe I3 (stat fr3) st3 stop) fun r s4 ⟨hr,I4⟩=>?_);subst hr;exact wpAny_execs_nil ⟨σ3,H3,I4,qn⟩
 ·refine wpAny_passesOwn hp (thn (T.item X rfl rfl rfl hc i Ju s3 σ3 H3 X.xe I3 (stat fr3) st3 go) fun r s4 ⟨u,hr,h4⟩=>?_);subst hr;refine wpAny_passesOwn hp (thn h4 fun _ s5 ⟨x,H5,I5,r5,y5,st5,fr5⟩=>?_);have I5':=I5.pinned (stat fr5) (T.obj _ _ st5);refine wpAny_passesOwn hp (thn (hg _ s5 σ3 H5 x u _ I5' r5 (step x H5 y5)) fun _ s6 ⟨σ6,H6,I6,q6⟩=>?_);refine wpAny_passesOwn hp (thn (hb _ s6 σ6 H6 _ I6 q6) fun f s7 q7=>?_);have again:∀{σ7:St} {H7:Hp},Inv X (Ju++xY fp s5.heap) σ7 H7 s7->N σ7 H7->∃m,m<n/\∃i σ' H',Inv X Ju σ' H' s7/\tn i s7.heap/\(∀b∈fp,H' b=none)/\W i m σ' H':=fun {σ7 H7} I7 n7=>by
   obtain⟨m',hm,w7⟩:=hN σ7 H7 n7;refine⟨m',hm,i+1,σ7,H7,I7.tG,T.keep _ _ _ st5 fun b hb o e=>(I7.pin (b,o) (UD _ (UD _ (mD hb e)))).1,fun b hb=>?_,w7⟩;obtain⟨o,e,d⟩:=T.obj _ _ st5 b hb;exact(I7.pin (b,o) (UD _ (UD _ (mD hb e)))).2.1
  cases f with
  |next=>obtain⟨σ7,H7,I7,n7⟩:=q7;exact again I7 n7
  |cont=>obtain⟨σ7,H7,I7,n7⟩:=q7;exact again I7 n7
  |brk=>obtain⟨σ7,H7,I7,q7⟩:=q7;exact⟨σ7,H7,I7.tG,q7⟩
  |ret v=>obtain⟨x7,σ7,H7,I7,r7,q7⟩:=q7;exact⟨x7,σ7,H7,I7.tG,r7,q7⟩
end
end
noncomputable abbrev R2:=V->V->Hp->VK->Prop
def OpR(X:Cx)(f:Value->Value->Sem Value)(r:R2):Prop:=
 ∀(Ju:List (Addr×Obj)) (s:Shared) (σ:St) (H:Hp) (x y:V) (v u:Value) (Q:VK),Inv X Ju σ H s->RelV x v->RelV y u->r x y H Q ->
  wpAny (model X.prog X.w) X.A (f v u) (EP X Ju σ Q) X.xe s
def UnR(X:Cx)(f:Value->Sem Value)(r:V->Hp->VK->Prop):Prop:=
 ∀(Ju:List (Addr×Obj)) (s:Shared) (σ:St) (H:Hp) (x:V) (v:Value) (Q:VK),Inv X Ju σ H s->RelV x v->r x H Q ->
  wpAny (model X.prog X.w) X.A (f v) (EP X Ju σ Q) X.xe s
def kH(X:Cx)(f:Value)(r:List V->Hp->VK->Prop):Prop:=
 ∀(Ju:List (Addr×Obj)) (s:Shared) (σ:St) (H:Hp) (xs:List V) (us:List Value) (Q:VK),Inv X Ju σ H s->Vals xs us->r xs H Q ->
  wpAny (model X.prog X.w) X.A (call f us) (EP X Ju σ Q) X.xe s
def tOp(r:R2)(ta tb:TE):TE:=fun σ H Q=>ta σ H fun x H1=>tb σ H1 fun y H2=>r x y H2 Q
def tUn(r:V->Hp->VK->Prop)(ta:TE):TE:=fun σ H Q=>ta σ H fun x H1=>r x H1 Q
def rI(C:Int->Int->Prop)(g:Int->Int->V):R2:=fun x y H Q=>∃i j,x=.int i/\y=.int j/\C i j/\Q (g i j) H
def rI0(g:Int->Int->V):R2:=fun x y H Q=>∃i j,x=.int i/\y=.int j/\Q (g i j) H
def rU(g:Int->V):V->Hp->VK->Prop:=fun x H Q=>∃i,x=.int i/\Q (g i) H
section
variable{X:Cx}{a b c:Expr}{ta tb tc:TE}{pos:Pos}
theorem NU(ha:PE X a ta)(hb:PE X b tb){Ju:List (Addr×Obj)}{s:Shared}{σ:St}{H:Hp}{R:V->V->Hp->Prop}(I:Inv X Ju σ H s)
  (h:ta σ H fun x H1=>tb σ H1 fun y H2=>R x y H2) {Q:Value->Shared->Prop} {f:Value->Value->Sem Value}
  (hf:∀v u s2 x y H2,Inv X Ju σ H2 s2->RelV x v->RelV y u->R x y H2->wpAny (model X.prog X.w) X.A (f v u) Q X.xe s2) :
  wpAny (model X.prog X.w) X.A (eval a X.env) (fun v s₁=>wpAny (model X.prog X.w) X.A (eval b X.env) (fun u s₂=>wpAny (model X.prog X.w) X.A (f v u) Q X.xe s₂) X.xe s₁) X.xe s:=by
 refine thn (ha Ju s σ H _ I h) fun v s1 ⟨x,H1,I1,r1,q1⟩=>?_;refine thn (hb Ju s1 σ H1 _ I1 q1) fun u s2 ⟨y,H2,I2,r2,q2⟩=>?_;exact hf v u s2 x y H2 I2 r1 r2 q2
theorem Qi{op:Operator}{r:R2}(ho:OpR X (binaryOp op) r)(ha:PE X a ta)(hb:PE X b tb):PE X (.BinOp a op b pos) (tOp r ta tb):=by intro Ju s σ H Q I h;exact wpAny_BinOp (NU ha hb I h fun v u s2 x y H2 I2 rx ry q=>ho Ju s2 σ H2 x y v u Q I2 rx ry q)
theorem MO{op:UnaryOp}{r:V->Hp->VK->Prop}(ho:UnR X (unaryOp op) r)(ha:PE X a ta):PE X (.UnaryOp op a pos) (tUn r ta):=by intro Ju s σ H Q I h;exact UnaryOp_ (thn (ha Ju s σ H _ I h) fun v s1 ⟨x,H1,I1,r1,q1⟩=>ho Ju s1 σ H1 x v Q I1 r1 q1)
theorem opI{f:Value->Value->Sem Value}{C:Int->Int->Prop}{g:Int->Int->Int}
  (rule:∀(i j:Int) (t u:Tok) (s:Shared) (Q:Value->Shared->Prop) (E:Value->Shared->Prop),C i j->Q (.int (g i j) s.toks) { s with toks:=s.toks+1 }->wpAny (model X.prog X.w) X.A (f (.int i t) (.int j u)) Q E s) :
  OpR X f (rI C fun i j=>.int (g i j)):=by
 intro Ju s σ H x y v u Q I rx ry h;obtain⟨i,j,rfl,rfl,hc,q⟩:=h;obtain⟨t,rfl⟩:=rx;obtain⟨t',rfl⟩:=ry;exact rule i j t t' s _ _ hc ⟨.int (g i j),H,I.tok _,⟨_,rfl⟩,q⟩
theorem Qj{f:Value->Value->Sem Value}{g:Int->Int->Int}
  (rule:∀(i j:Int) (t u:Tok) (s:Shared) (Q:Value->Shared->Prop) (E:Value->Shared->Prop),Q (.int (g i j) s.toks) { s with toks:=s.toks+1 }->wpAny (model X.prog X.w) X.A (f (.int i t) (.int j u)) Q E s) :
  OpR X f (rI0 fun i j=>.int (g i j)):=by
 intro Ju s σ H x y v u Q I rx ry h;obtain⟨i,j,rfl,rfl,q⟩:=h;obtain⟨t,rfl⟩:=rx;obtain⟨t',rfl⟩:=ry;exact rule i j t t' s _ _ ⟨.int (g i j),H,I.tok _,⟨_,rfl⟩,q⟩
theorem NV{f:Value->Value->Sem Value}{g:Int->Int->Bool}
  (rule:∀(i j:Int) (t u:Tok) (s:Shared) (Q:Value->Shared->Prop) (E:Value->Shared->Prop),Q (.bool (g i j)) s->wpAny (model X.prog X.w) X.A (f (.int i t) (.int j u)) Q E s) :
  OpR X f (rI0 fun i j=>.bl (g i j)):=by
 intro Ju s σ H x y v u Q I rx ry h;obtain⟨i,j,rfl,rfl,q⟩:=h;obtain⟨t,rfl⟩:=rx;obtain⟨t',rfl⟩:=ry;exact rule i j t t' s _ _ ⟨.bl (g i j),H,I,rfl,q⟩
def Qk(i j:Int):Prop:=0<=j/\j<=1000000/\i.natAbs<2 ^ 64
def Hv(i j:Int):Prop:=(-(2 ^ 64)<i/\i<2 ^ 64)\/(-(2 ^ 64)<j/\j<2 ^ 64)
theorem Hv.ok{i j:Int}(h:Hv i j):IntMulOk i j:=by
 rcases h with⟨h1,h2⟩ | ⟨h1,h2⟩
 ·exact .of_left (intBits_le_64 h1 h2)
 ·exact .of_right (intBits_le_64 h1 h2)
theorem NW:OpR X (binaryOp .Add) (rI0 fun i j=>.int (i+j)):=Qj fun _ _ _ _ _ _ _ q=>add_int q
theorem NX:OpR X (binaryOp .Sub) (rI0 fun i j=>.int (i-j)):=Qj fun _ _ _ _ _ _ _ q=>sub_int q
theorem NY:OpR X (binaryOp .Mult) (rI Hv fun i j=>.int (i*j)):=opI fun _ _ _ _ _ _ _ hc q=>mul_int q hc.ok
theorem NZ:OpR X (binaryOp .Mod) (rI (fun _ j=>0<j) fun i j=>.int (i % j)):=opI fun i j _ _ _ _ _ hc q=>by have h1:(0:Int)<j:=hc;exact mod_int' (by lia) (by rw[Int.fmod_eq_emod_of_nonneg i (by lia)];exact q)
theorem N1:OpR X (binaryOp .Pow) (rI Qk fun i j=>.int (i ^ j.toNat)):=opI fun _ _ _ _ _ _ _ hc q=>pow_int_small hc.1 hc.2.1 hc.2.2 q
theorem unI{f:Value->Sem Value}{g:Int->Int}
  (rule:∀(i:Int) (t:Tok) (s:Shared) (Q:Value->Shared->Prop) (E:Value->Shared->Prop),Q (.int (g i) s.toks) { s with toks:=s.toks+1 }->wpAny (model X.prog X.w) X.A (f (.int i t)) Q E s) :
  UnR X f (rU fun i=>.int (g i)):=by
 intro Ju s σ H x v Q I rx h;obtain⟨i,rfl,q⟩:=h;obtain⟨t,rfl⟩:=rx;exact rule i t s _ _ ⟨.int (g i),H,I.tok _,⟨_,rfl⟩,q⟩
theorem Hw:UnR X (unaryOp .USub) (rU fun i=>.int (-i)):=unI fun _ _ _ _ _ q=>neg_int q
end
section
variable{X:Cx}{a b c:Expr}{ta tb tc:TE}{pos:Pos}
theorem Ql:OpR X (compareOp .Lt) (rI0 fun i j=>.bl (decide (i<j))):=NV fun _ _ _ _ _ _ _ q=>lt_int q
theorem MP:OpR X (compareOp .LtE) (rI0 fun i j=>.bl (decide (i<=j))):=NV fun _ _ _ _ _ _ _ q=>le_int q
theorem Qm:OpR X (compareOp .Gt) (rI0 fun i j=>.bl (decide (j<i))):=NV fun _ _ _ _ _ _ _ q=>gt_int q
theorem OpR.or{f:Value->Value->Sem Value}{r r':R2}(h:OpR X f r)(h':OpR X f r'):OpR X f (fun x y H Q=>r x y H Q\/r' x y H Q):=by
 intro Ju s σ H x y v u Q I rx ry q;rcases q with q | q
 ·exact h Ju s σ H x y v u Q I rx ry q
 ·exact h' Ju s σ H x y v u Q I rx ry q
theorem qM(b:Expr){op:CmpOp}(h:op≠.In:=by decide)(h2:op≠.NotIn:=by decide):behindInMarks op b=false:=by
 have e1:(op == CmpOp.In)=false:=by cases op<;>first | rfl | exact absurd rfl h
 have e2:(op == CmpOp.NotIn)=false:=by cases op<;>first | rfl | exact absurd rfl h2
 cases b<;>simp[behindInMarks,e1,e2]
theorem Ku{op:CmpOp}{r:R2}(ho:OpR X (compareOp op) r)(ha:PE X a ta)(hb:PE X b tb)(hm:behindInMarks op b=false):PE X (.Compare a [op] [b] pos) (tOp r ta tb):=by intro Ju s σ H Q I h;exact wpAny_Compare1 (NU ha hb I h fun v u s2 x y H2 I2 rx ry q=>ho Ju s2 σ H2 x y v u Q I2 rx ry q) hm
def MQ(t:TE):TT:=fun σ H Q=>t σ H fun x H'=>∃k,x=.bl k/\Q k H'
theorem Kv{op:CmpOp}{r:R2}(ho:OpR X (compareOp op) r)(ha:PE X a ta)(hb:PE X b tb)(hm:behindInMarks op b=false):PT X (.Compare a [op] [b] pos) (MQ (tOp r ta tb)):=by
 intro Ju s σ H Q I h;refine wpAny_isTrue_Compare1 (thn (ha Ju s σ H _ I h) fun v s1 ⟨x,H1,I1,r1,q1⟩=>thn (hb Ju s1 σ H1 _ I1 q1) fun u s2 ⟨y,H2,I2,r2,q2⟩=>thn (ho Ju s2 σ H2 x y v u _ I2 r1 r2 q2) fun c s3 ⟨z,H3,I3,r3,k,e,q3⟩=>?_) hm
 subst e;cases r3;exact wpAny_truthy_bool ⟨H3,I3,q3⟩
def Hx(r r':R2)(ta tb tc:TE):TE:=fun σ H Q=>ta σ H fun x H1=>tb σ H1 fun y H2=>r x y H2 fun z H3=>∃k,z=.bl k /\
 (if k=true then tc σ H3 fun w' H4=>r' y w' H4 Q else Q (.bl false) H3)
theorem Hy{op op':CmpOp}{r r':R2}(ho:OpR X (compareOp op) r)(ho':OpR X (compareOp op') r')(ha:PE X a ta)(hb:PE X b tb)(hc:PE X c tc)
  (hm:lastMarks [op,op'] [b,c]=false:=by with_unfolding_all rfl):PE X (.Compare a [op,op'] [b,c] pos) (Hx r r' ta tb tc):=by
 intro Ju s σ H Q I h;refine Compare_chain (thn (ha Ju s σ H _ I h) fun v s1 ⟨x,H1,I1,r1,q1⟩=>chain_link (thn (hb Ju s1 σ H1 _ I1 q1) fun u s2 ⟨y,H2,I2,r2,q2⟩=>thn (ho Ju s2 σ H2 x y v u _ I2 r1 r2 q2) fun d s3 ⟨z,H3,I3,r3,k,e,q3⟩=>?_)) hm
 subst e;cases r3;refine wpAny_truthy_bool ?_;cases k with
 |false=>exact ite_ff ⟨.bl false,H3,I3,rfl,q3⟩
 |true=>exact ite_tt (chain_last (thn (hc Ju s3 σ H3 _ I3 q3) fun w' s4 ⟨z',H4,I4,r4,q4⟩=>ho' Ju s4 σ H4 y z' u w' Q I4 r2 r4 q4))
theorem C6:(sizeLine:Nat)<2 ^ 63:=by rw[sizeLine_eq];decide
theorem vals1{x:V}{us:List Value}(r:Vals [x] us):∃u,us=[u]/\RelV x u:=by
 cases r with
 |cons r1 r2=>cases r2;exact⟨_,rfl,r1⟩
theorem vals2{x y:V}{us:List Value}(r:Vals [x,y] us):∃u w',us=[u,w']/\RelV x u/\RelV y w':=by
 cases r with
 |cons r1 r2=>
  cases r2 with
  |cons r3 r4=>cases r4;exact⟨_,_,rfl,r1,r3⟩
theorem FF(hc:X.calm=true):kH X (.builtin "max") (fun xs H Q=>∃i j,xs=[.int i,.int j]/\Q (.int (if j>i then j else i)) H):=by
 intro Ju s σ H xs us Q I r h;obtain⟨i,j,rfl,q⟩:=h;obtain⟨u,w',rfl,⟨t,rfl⟩,⟨t',rfl⟩⟩:=vals2 r;refine max_two_ints (I.ok.hd hc) fun h' tk k=>⟨_,H,I.kept k,?_,q⟩;by_cases hj:j>i
 ·rw[if_pos hj,if_pos hj];exact⟨_,rfl⟩
 ·rw[if_neg hj,if_neg hj];exact⟨_,rfl⟩
theorem FG(hc:X.calm=true):kH X (.builtin "min") (fun xs H Q=>∃i j,xs=[.int i,.int j]/\Q (.int (if j<i then j else i)) H):=by
 intro Ju s σ H xs us Q I r h;obtain⟨i,j,rfl,q⟩:=h;obtain⟨u,w',rfl,⟨t,rfl⟩,⟨t',rfl⟩⟩:=vals2 r;refine min_two_ints (I.ok.hd hc) fun h' tk k=>⟨_,H,I.kept k,?_,q⟩;by_cases hj:j<i
 ·rw[if_pos hj,if_pos hj];exact⟨_,rfl⟩
 ·rw[if_neg hj,if_neg hj];exact⟨_,rfl⟩
end
section
variable{mA:Str->Option Value}{h:Heap}{v:V}
structure N2(h:Heap)(x dx C:Addr)(mA:Str->Option Value):Prop where
 obj:h.get? x=some (XX C dx)
 ns:h.Ns1 dx mA
 ne:dx≠x
theorem zW{dx:Addr}(n:h.Ns1 dx mA):∃od,h.get? dx=some od/\∀name,X6 name od=some (mA name):=by
 obtain⟨o,es,ep,ho,hd,hk,_,hm⟩:=n;refine⟨o,ho,fun name=>?_⟩;have e:=hm name;unfold nsFind findBy at e;rw[<- XC]at e;unfold X6;rw[hd];dsimp only;split
 ·rename_i y q;rw[q]at e;exact congrArg some e
 ·rename_i q;rw[q]at e;have a:es.toList.any (·.refKey)=false:=by
   rw[List.any_eq_false];intro y hy;obtain⟨z,t,hkey⟩:=hk y (Array.mem_toList_iff.mp hy);simp[DictEntry.refKey,hkey]
  have a':¬es.toList.any (·.refKey)=true:=by rw[a];exact UZ
  rw[if_neg a'];exact congrArg some e
theorem N2.look{x dx C:Addr}(I:N2 h x dx C mA):∃od,PySem.W.InstAt h x (XX C dx) C (some od)/\∀name,X6 name od=some (mA name):=
 let ⟨od,ho,hl⟩:=zW I.ns
 ⟨od,⟨I.obj,rfl,rfl,ho⟩,hl⟩
theorem C2.some_of{o:Option Value}(r:C2 (some v) o):∃u,o=some u/\RelV v u:=by
 cases o with
 |none=>exact(show False from r).elim
 |some u=>exact⟨u,rfl,r⟩
theorem FH{u:Value}(r:RelV v u):PySem.W.handedIn u=true:=by
 cases v with
 |non=>cases (show u=Value.none from r);rfl
 |bl b=>cases (show u=Yd b from r);rfl
 |int i=>obtain⟨t,e⟩:=(show ∃t,u=WM i t from r);cases e;rfl
 |str x=>obtain⟨t,e⟩:=(show ∃t,u=Yh x t from r);cases e;rfl
 |byt b=>obtain⟨t,e⟩:=(show ∃t,u=Value.bytes b t from r);cases e;rfl
 |flt b=>obtain⟨t,e⟩:=(show ∃t,u=Ym b t from r);cases e;rfl
 |ref a=>cases (show u=UU a from r);rfl
 |ty n=>cases (show u=Ye n from r);rfl
end
section
variable{P:Program}{w:World}{H H':Hp}{h h':Heap}{a C dx:Addr}{fs fs':List (Str×V)}
theorem Kw(hok:HOk P w H h)(e:H a=some (.ins C dx fs)):∃mA,N2 h a dx C mA/\(∀f,C2 (fs.lookup f) (mA f))/\PySem.Within mA (fs.map (·.1))/\fs.length<=1000/\H dx=some (.own a):=by
 obtain⟨d,z,ne,ob,mA,n,r,q⟩:=(show bZ P w H h a (.ins C dx fs) from hok a _ e)
 exact⟨mA,⟨ob,n,ne⟩,r,q,z,d⟩
end
structure Cls(K:gc)(C:Addr):Prop where
 pg:PySem.W.plainGet K C Str.empty=true
 hd:W2 K C=true
 po:PySem.W.plainOver K C=true
 sa:Ug K (.ref C) "__setattr__" = some (some (.builtin "object.__setattr__"))
theorem Cls.get{K:gc}{C:Addr}(c:Cls K C)(f:Str):PySem.W.plainGet K C f=true:=c.pg
section
variable{X:Cx}{Ju:List (Addr×Obj)}{σ:St}{H:Hp}{s:Shared}{a C dx:Addr}{fs:List (Str×V)}{f:Str}{v:V}{A:Around}{E:Value->Shared->Prop}
theorem Ky{prog:Program}{w:World}{env:Env}{e:Expr}{f:Str}{pos:Pos}{s:Shared}{Q:Value->Shared->Prop}(hb:attributeBase e f env (eval e env)=eval e env)
  (h:wpAny (model prog w) A (eval e env) (fun o s₁=>wpAny (model prog w) A (getAttr o f true) Q E s₁) E s):wpAny (model prog w) A (eval (.Attribute e f pos) env) Q E s:=
 Attribute_any_ h (by rw[arm_eval_Attribute,hb])
end
section
variable{X:Cx}{Ju:List (Addr×Obj)}{σ:St}{H:Hp}{s:Shared}{A:Around}{E:Value->Shared->Prop}{Q:Value->Shared->Prop}{c:Value}{b:Bool}
inductive tH(K:gc)(H:Hp):V->Value->Prop where
 |non:tH K H .non (.type "NoneType")
 |bl (x:Bool):tH K H (.bl x) (.type "bool")
 |int (i:Int):tH K H (.int i) (.type "int")
 |str (x:Str):tH K H (.str x) (.type "str")
 |flt (x:UInt64):tH K H (.flt x) (.type "float")
 |lst {a:Addr} {xs:List V} (e:H a=some (.lst xs)):tH K H (.ref a) (.type "list")
 |frz {a:Addr} {o:Obj} {xs:List V} (e:H a=some (.frz o (.lst xs))):tH K H (.ref a) (.type "list")
 |tup {a:Addr} {xs:List V} (e:H a=some (.tup xs)):tH K H (.ref a) (.type "tuple")
 |dK {a:Addr} {kvs:List (Key×V)} (e:H a=some (.dK kvs)):tH K H (.ref a) (.type "dict")
 |dT {a:Addr} {kvs:List (List Key×V)} {ts:List Addr} (e:H a=some (.dT kvs ts)):tH K H (.ref a) (.type "dict")
 |ins {a C dx:Addr} {fs:List (Str×V)} (e:H a=some (.ins C dx fs)) (cl:Cls K C) (ha:Ug K (.ref C) "__class__" = some (some (.builtin "object.__class__")))
   (hn:W3 K (.builtin "object.__class__") "__get__" = some (some (.builtin "getset_descriptor.__get__"))) (htk:PySem.W.takesIn K (.builtin "object.__class__")=some true)
   (hm:UR K C (.type "object")=some true):tH K H (.ref a) (.ref C)
theorem FJ{x:V}{u t:Value}(I:Inv X Ju σ H s)(rx:RelV x u)(ty:tH X.K H x t)(e:eg X.K t c=some b)(h:∀tk,Q (.bool b) { s with toks:=tk }) :
  wpAny (model X.prog X.w) A (call (.builtin "isinstance") [u,c]) Q E s:=by
 cases ty with
 |non=>cases (show u=Value.none from rx);exact Vr PySem.W.kitx_none I.kIn WC e (fun z=>nomatch z) h
 |bl y=>cases (show u=Yd y from rx);exact Vr PySem.W.kitx_bool I.kIn WC e (fun z=>nomatch z) h
 |int i=>obtain⟨t,q⟩:=(show ∃t,u=WM i t from rx);cases q;exact Vr PySem.W.kitx_int I.kIn WC e (fun z=>nomatch z) h
 |str y=>obtain⟨t,q⟩:=(show ∃t,u=Yh y t from rx);cases q;exact Vr PySem.W.kitx_str I.kIn WC e (fun z=>nomatch z) h
 |flt y=>obtain⟨t,q⟩:=(show ∃t,u=Ym y t from rx);cases q;exact Vr PySem.W.kitx_float I.kIn WC e (fun z=>nomatch z) h
 |@lst a xs ea=>
  cases (show u=UU a from rx);obtain⟨_,_,n,_,h1⟩:=(show bZ X.prog X.w H s.heap a (.lst xs) from I.hok a _ ea)
  exact Vr PySem.W.kitx_list I.kIn ⟨_,h1,rfl⟩ e (fun z=>nomatch z) h
 |@frz a ob xs ea=>
  cases (show u=UU a from rx);obtain⟨_,_,_,n,_,h1⟩:=(show bZ X.prog X.w H s.heap a (.frz ob (.lst xs)) from I.hok a _ ea)
  exact Vr PySem.W.kitx_list I.kIn ⟨_,h1,rfl⟩ e (fun z=>nomatch z) h
 |@tup a xs ea=>
  cases (show u=UU a from rx);obtain⟨_,_,_,p⟩:=(show bZ X.prog X.w H s.heap a (.tup xs) from I.hok a _ ea)
  obtain⟨o,h1,h2,_⟩:=p;exact Vr PySem.W.kitx_tuple I.kIn ⟨o,h1,h2⟩ e (fun z=>nomatch z) h
 |@dK a kvs ea=>
  cases (show u=UU a from rx);obtain⟨_,_,vs,_,p⟩:=(show bZ X.prog X.w H s.heap a (.dK kvs) from I.hok a _ ea)
  obtain⟨o,es,ep,h1,h2,_⟩:=p;exact Vr PySem.W.kitx_dict I.kIn ⟨o,h1,h2.1⟩ e (fun z=>nomatch z) h
 |@dT a kvs ts ea=>
  cases (show u=UU a from rx);obtain⟨_,_,xs,_,o,es,ep,h1,h2,_⟩:=(show bZ X.prog X.w H s.heap a (.dT kvs ts) from I.hok a _ ea)
  exact Vr PySem.W.kitx_dict I.kIn ⟨o,h1,h2.1⟩ e (fun z=>nomatch z) h
 |@ins a C dx fs ea cl ha hn htk hm=>cases (show u=UU a from rx);obtain⟨mA,O,_⟩:=Kw I.hok ea;obtain⟨od,J,_⟩:=O.look;exact Vr (PySem.W.kitx_own (cl.get _) cl.hd ha hn htk hm) I.kIn J e (fun z=>nomatch z) h
end
section
variable{A:Around}{kw:List (Str×Value)}{us:List Value}{k:Nat}{C:Addr}
structure cS(k:Nat)(A:Around):Prop where
 hd:A.handled=none
 dp:A.depth+3*k+5<recursionLimit
 un:A.units+16*k+200<cLine
 gd:A.guards=some []
theorem cS.mono{j k:Nat}(r:cS k A)(h:j<=k):cS j A:=⟨r.hd,by have:=r.dp;lia,by have:=r.un;lia,r.gd⟩
theorem cS.deeper(r:cS (k+1) A)(env:Env):cS k (A.deeper env):=
 ⟨r.hd,by have:=r.dp;show A.depth+1+3*k+5<_;lia,by have:=r.un;show A.units+3+16*k+200<_;lia,r.gd⟩
theorem C7:(A.under (.builtin "type.__call__" ⟨.ref C::us,kw⟩)).depth=A.depth+1:=by first | rfl | simp[XR,Code.weight,Code.isCreation,Code.isGuard,Code.isCaller,Code.frames,Yi,guardIds]
theorem C8:(A.under (.builtin "type.__call__" ⟨.ref C::us,kw⟩)).units=A.units+1:=by first | rfl | simp[XR,Code.cUnits,Code.frames,Yi]
theorem BE:(A.under (.builtin "type.__call__" ⟨.ref C::us,kw⟩)).guards=A.guards:=by cases A with | mk d h f g u=>cases g<;>first | rfl | simp[XR,Code.guards,Code.isGuard,guardIds,pushGuards]
theorem cS.make(r:cS (k+1) A)(C:Addr)(us:List Value)(kw:List (Str×Value)):cS k (A.under (.builtin "type.__call__" ⟨.ref C::us,kw⟩)):=
 ⟨r.hd,by have:=r.dp;rw[C7];lia,by have:=r.un;rw[C8];lia,by rw[BE];exact r.gd⟩
theorem cS.depth(r:cS k A):A.depth<recursionLimit:=by have:=r.dp;lia
theorem cS.units(r:cS k A):A.units+64<cLine:=by have:=r.un;lia
def C9:TA:=fun _ H Q=>Q [] H
def qI(ta:TE)(tr:TA):TA:=fun σ H Q=>ta σ H fun x H1=>tr σ H1 fun xs H2=>Q (x::xs) H2
end
section
variable{X:Cx}{e:Expr}{es:List Expr}{te:TE}{t:TA}{pos:Pos}
theorem mE:PA X [] C9:=fun _ _ _ _ H Q I h=>Calls.spliced_nil ⟨[],H,I,.nil,h⟩
theorem gb(ha:PE X e te)(hr:PA X es t)(hs:starEach (e::es) X.env=(false,eval e X.env)::starEach es X.env:=by rfl):PA X (e::es) (qI te t):=by intro pos Ju s σ H Q I h;rw[hs];show wpAny _ _ (spliced ((false,eval e X.env)::backTo pos (starEach es X.env))) _ _ s;refine Calls.spliced_cons (thn (ha Ju s σ H _ I h) fun u s1 ⟨x,H1,I1,r1,q1⟩=>?_);exact thn (hr pos Ju s1 σ H1 _ I1 q1) fun us s2 ⟨xs,H2,I2,r2,q2⟩=>⟨x::xs,H2,I2,.cons r1 r2,q2⟩
def Qn(t:TA):TE:=fun σ H Q=>t σ H fun xs H1=>xs.length<=sizeLine/\∀p,H1 p=none->Q (.ref p) (upd H1 p (.tup xs))
def Qo(t:TA):TE:=fun σ H Q=>t σ H fun xs H1=>xs.length<=sizeLine/\∀p,H1 p=none->Q (.ref p) (upd H1 p (.lst xs))
theorem N3{x1}(h:PA X es t):PE X (.Tuple es x1 pos) (Qn t):=by intro Ju s σ H Q I hq;refine wpAny_Tuple_spliced (thn (h pos Ju s σ H _ I hq) fun us s1 ⟨xs,H1,I1,r,z,q⟩=>⟨by rw[<- r.length];exact z,?_⟩);have hf:H1 s1.heap.objs.size=none:=I1.hok.fresh (Nat.le_refl _);refine⟨.ref s1.heap.objs.size,upd H1 s1.heap.objs.size (.tup xs),I1.laid (t':=s1.toks) (fun b u e=>Dk _ e) (Nat.le_refl _) ?_,rfl,q _ hf⟩;exact⟨z,us,r,⟨_,UW _ rfl,rfl,_,rfl⟩⟩
theorem N4(h:PA X es t):PE X (.List es pos) (Qo t):=by intro Ju s σ H Q I hq;refine wpAny_List_spliced (thn (h pos Ju s σ H _ I hq) fun us s1 ⟨xs,H1,I1,r,z,q⟩=>⟨by rw[<- r.length];exact z,?_⟩);have hf:H1 s1.heap.objs.size=none:=I1.hok.fresh (Nat.le_refl _);refine⟨.ref s1.heap.objs.size,upd H1 s1.heap.objs.size (.lst xs),I1.laid (t':=s1.toks) (fun b u e=>Dk _ e) (Nat.le_refl _) ?_,rfl,q _ hf⟩;exact⟨z,us,0,r,UW _ rfl⟩
end
noncomputable abbrev Sp:=List V->Hp->VK->XK->Prop
noncomputable abbrev CXT:=List Env->Hp->Shared->XK->Value->Shared->Prop
structure C_(P:Program)(w:World)(K:gc)(mg:Str->Option Value)(base:Heap)(A:Around)(outer:List Env)(s:Shared)(H:Hp):Prop where
 frames:A.frames=some outer
 mod:Mod K mg base
 bs:∀b o,base.get? b=some o->s.heap.get? b=some o/\H b=none
 bsz:base.objs.size<=s.heap.objs.size
 uU:s.heap.FunFrames base outer
 frf:∀b∈frs outer,H b=none
 hok:HOk P w H s.heap
 bare:AllBare s.gens
def CE(outer:List Env)(P:Program)(w:World)(H:Hp)(s:Shared)(Q:VK)(u:Value)(s':Shared):Prop:=
 ∃v H',s'.os=s.os/\AllBare s'.gens/\Un (frs outer) [] H H' s.heap s'.heap/\HOk P w H' s'.heap/\RelV v u/\Q v H'
def CR(CX:CXT)(outer:List Env)(P:Program)(w:World)(H:Hp)(s:Shared)(Q:VK)(E:XK)(r:Result)(s':Shared):Prop:=
 match r with
 |.ok (.ret u)=>CE outer P w H s Q u s'
 |.ok _=>False
 |.error e=>CX outer H s E e s'
structure cF(P:Program)(w:World)(K:gc)(mg:Str->Option Value)(base:Heap)(CX:CXT)(k:Nat)(f:Addr)(fd:FuncData)(ps:List Str)(sp:Sp):Prop where
 len:∀vs H Q E,sp vs H Q E->vs.length=ps.length
 run:∀(A:Around) (outer:List Env) (s:Shared) (H:Hp) (args:Args) (us:List Value) (vs:List V) (Q:VK) (E:XK),cS k A->C_ P w K mg base A outer s H->BindsTo s fd args (ps.zip us)->Vals vs us->sp vs H Q E ->
  codeAny (model P w) A (.call (.ref f) args) (CR CX outer P w H s Q E) s
theorem C_.make{P:Program}{w:World}{K:gc}{mg:Str->Option Value}{base:Heap}{A:Around}{outer:List Env}{s:Shared}{H:Hp}(e:C_ P w K mg base A outer s H)(C:Addr)(us:List Value)(kw:List (Str×Value)) :
  C_ P w K mg base (A.under (.builtin "type.__call__" ⟨.ref C::us,kw⟩)) outer s H:=⟨by first | exact e.frames | (simpa [XR,Code.envs,Yi,pushEnvs] using e.frames),e.mod,e.bs,e.bsz,e.uU,e.frf,e.hok,e.bare⟩
section
variable{X:Cx}{Ju:List (Addr×Obj)}{σ:St}{H:Hp}{s s':Shared}
theorem Inv.Hz(I:Inv X Ju σ H s):C_ X.prog X.w X.K X.mg X.base X.A X.stack s H:=
 ⟨I.ok.frames,I.ok.mod,I.bs,Nat.le_trans I.ok.bsz I.sz,I.stack,I.AD,I.hok,I.bare⟩
theorem Inv.after{Q:VK}{u:Value}(I:Inv X Ju σ H s)(h:CE X.stack X.prog X.w H s Q u s'):EP X Ju σ Q u s':=by obtain⟨v,H',os,bare,un,hok,r,q⟩:=h;obtain⟨hh,g,d,t,os'⟩:=s';obtain rfl:os'=s.os:=os;exact⟨v,H',I.call (h':=hh) (g':=g) (d':=d) (t':=t) (ch:=[]) un hok bare (fun b z=>absurd z (by simp)),r,q⟩
end
def MR(sp:Sp)(dvs:List V)(E:XK)(t:TA):TE:=fun σ H Q=>t σ H fun vs H1=>sp (vs++dvs) H1 Q E
def Binds(K:gc)(fd:FuncData)(ps:List Str)(ds:List Value):Prop:=
 ∀(s:Shared) (us:List Value),K.In s.heap->(us++ds).length=ps.length->BindsTo s fd ⟨us,[]⟩ (ps.zip (us++ds))
theorem Binds.all{K:gc}{fd:FuncData}{ps:List Str}(h:∀us:List Value,us.length=ps.length->bindArgs fd ⟨us,[]⟩=pure (ps.zip us)):Binds K fd ps []:=fun s us _ hl=>by rw[U3]at hl ⊢;exact .of_eq (h us hl)
def Passes(CX:CXT)(X:Cx)(E:XK):Prop:=∀(Ju:List (Addr×Obj)) (σ:St) (H:Hp) (s:Shared) (e:Value) (s':Shared),Inv X Ju σ H s->CX X.stack H s E e s'->X.xe e s'
section
variable{X:Cx}{CX:CXT}{k:Nat}{f C:Addr}{fd:FuncData}{ps:List Str}{sp:Sp}{dvs:List V}{ds:List Value}{E:XK}{x m:Str}{p pos ZK:Pos}{e o:Expr}{es:List Expr}{ta:TE}{t:TA}
theorem HA{Ju:List (Addr×Obj)}{σ:St}{H:Hp}{s:Shared}{Q:VK}{us:List Value}{vs:List V}(F:cF X.prog X.w X.K X.mg X.base CX k f fd ps sp)(hr:cS k X.A)(hb:Binds X.K fd ps ds)(hd:Vals dvs ds)(hx:Passes CX X E)
  (I:Inv X Ju σ H s) (r:Vals vs us) (h:sp (vs++dvs) H Q E):wpAny (model X.prog X.w) X.A (call (.ref f) us) (EP X Ju σ Q) X.xe s:=by
 have r2:Vals (vs++dvs) (us++ds):=r.append hd;have hl:(us++ds).length=ps.length:=by rw[<- r2.length];exact F.len _ _ _ _ h
 refine wpAny_call (codeAny_mono (F.run X.A X.stack s H ⟨us,[]⟩ (us++ds) (vs++dvs) Q E hr I.Hz (hb s us I.kIn hl) r2 h) fun r s' hq=>?_);cases r with
 |error e=>exact hx Ju σ H s e s' I hq
 |ok fl=>
  cases fl with
  |ret u=>exact I.after hq
  |next=>exact UH hq
  |brk=>exact UH hq
  |cont=>exact UH hq
theorem Kz(F:cF X.prog X.w X.K X.mg X.base CX k f fd ps sp)(hr:cS k X.A)(hg:Gl X x)(hm:X.mg x=some (.ref f))(hk:Ut X.K (.ref f)=true)(hb:Binds X.K fd ps ds)(hd:Vals dvs ds)(hx:Passes CX X E)
  (ha:PA X (e::es) t) (RQ:(x == ("__debug__" : Str))=false:=by decide) (he:starEach (e::es) X.env=(false,eval e X.env)::starEach es X.env:=by rfl) (RN:(backTo pos (starEach es X.env)).any (·.1)=false:=by rfl) :
  PE X (.Call (.Name x p) (e::es) [] pos) (MR sp dvs E t):=by
 intro Ju s σ H Q I h;refine wpAny_Call_Name_kw (g8 I hg hm ?_ RQ);refine Wh (h₀:=X.base) I.ok.mod.kin hk (thn (ha pos Ju s σ H _ I h) fun us s1 ⟨vs,H1,I1,r,q⟩=>⟨I1.kIn,?_⟩) he RN;exact HA F hr hb hd hx I1 r q
end
section
variable{x:Str}{v:Value}
structure br(N P:List Str)(sc:Scope):Prop where
 kind:sc.kind=.function
 co:sc.isCoroutine=false
 gen:sc.isGenerator=false
 nd:N.Nodup
 pre:N.take P.length=P
 par:∀x∈P,sc.names.lookup x=some .local\/sc.names.lookup x=some .cell
 N5:∀y∈sc.names,y.2≠.free
theorem zX{kindOf:Str->Option NameKind}:∀{binds:List (Str×Value)} {m:Str->Option Value},(∀v,(x,v)∉binds)->bindL kindOf binds m x=m x
 |[],_,_=>rfl
 |(n,v)::r,m,h=>by
  unfold bindL;rw[zX fun w hw=>h w (Ue _ hw)];split
  ·have:x≠n:=by rintro rfl;exact h v Uj
   simp[this]
  ·rfl
theorem zY{kindOf:Str->Option NameKind}:∀{binds:List (Str×Value)} {m:Str->Option Value},(∀v,(x,v)∉binds)->bindC kindOf binds m x=m x
 |[],_,_=>rfl
 |(n,v)::r,m,h=>by
  unfold bindC;rw[zY fun w hw=>h w (Ue _ hw)];split
  ·rfl
  ·have:x≠n:=by rintro rfl;exact h v Uj
   simp[this]
theorem zZ{kindOf:Str->Option NameKind}:∀{P:List Str} {vs:List Value} {i:Nat} {m:Str->Option Value},P.Nodup->P[i]?=some x->vs[i]?=some v->kindOf x=some .local ->
  bindL kindOf (P.zip vs) m x=some v
 |[],_,_,_,_,h,_,_=>by simp at h
 |_::_,[],_,_,_,_,h,_=>by simp at h
 |p::P,w::vs,0,m,nd,h1,h2,hk=>by simp at h1 h2;subst h1;subst h2;show bindL kindOf ((p,w)::P.zip vs) m p=_;unfold bindL;rw[zX fun v hv=>(VI.mp nd).1 (Xk hv).1,if_pos hk];simp
 |p::P,w::vs,i+1,m,nd,h1,h2,hk=>by show bindL kindOf ((p,w)::P.zip vs) m x=_;unfold bindL;exact zZ (i:=i) (VI.mp nd).2 (by simpa using h1) (by simpa using h2) hk
theorem z7{kindOf:Str->Option NameKind}:∀{P:List Str} {vs:List Value} {i:Nat} {m:Str->Option Value},P.Nodup->P[i]?=some x->vs[i]?=some v->kindOf x≠some .local ->
  bindC kindOf (P.zip vs) m x=some v
 |[],_,_,_,_,h,_,_=>by simp at h
 |_::_,[],_,_,_,_,h,_=>by simp at h
 |p::P,w::vs,0,m,nd,h1,h2,hk=>by simp at h1 h2;subst h1;subst h2;show bindC kindOf ((p,w)::P.zip vs) m p=_;unfold bindC;rw[zY fun v hv=>(VI.mp nd).1 (Xk hv).1,if_neg hk];simp
 |p::P,w::vs,i+1,m,nd,h1,h2,hk=>by show bindC kindOf ((p,w)::P.zip vs) m x=_;unfold bindC;exact z7 (i:=i) (VI.mp nd).2 (by simpa using h1) (by simpa using h2) hk
noncomputable def start(N:List Str)(vs:List V):St:=vs.map some++fj (N.length-vs.length) none
noncomputable def dD(CX:CXT)(P:Program)(w:World)(K:gc)(mg:Str->Option Value)(base:Heap)(N:List Str)(qual:Str)(scope:Scope)(f:Addr)(cd:Value)(A:Around)(outer:List Env)(s:Shared)(H:Hp)(E:XK):Cx where
 prog:=P
 w:=w
 K:=K
 mg:=mg
 base:=base
 A:=A.deeper (envOfC qual scope s.heap.objs.size f cd)
 N:=N
 s₀:=s
 H₀:=H
 env:=envOfC qual scope s.heap.objs.size f cd
 outer:=outer
 stack:=envOfC qual scope s.heap.objs.size f cd::outer
 ex:=[]
 calm:=true
 fn:=fun _=>true
 pn:=[]
 xe:=fun e s'=>wpAny (model P w) (A.deeper (envOfC qual scope s.heap.objs.size f cd)) (leaving (envOfC qual scope s.heap.objs.size f cd) e) (fun _ s''=>CX outer H s E e s'') (fun e' s''=>CX outer H s E e' s'') s'
theorem BF{sc:Scope}{n:Nat}(h:sc.names.lookup x=some .cell):∃c,(cellsFrom n sc.names []).lookup x=some c:=by have q:=PySem.W.cellsFrom_some sc.names n [] (.inl h);exact UN.mp q
theorem FL{CX:CXT}{P:Program}{w:World}{K:gc}{mg:Str->Option Value}{base:Heap}{N ps:List Str}{qual:Str}{scope:Scope}{f:Addr}{cd:Value}{A:Around}{outer:List Env}{s s1:Shared}{H:Hp}{E:XK}{us:List Value}{vs:List V}
  (S:br N ps scope) (hd:A.handled=none) (e0:C_ P w K mg base A outer s H) (hl:vs.length=ps.length) (r:Vals vs us)
  (x:InCallC s s.heap.objs.size (bindL (envOfC qual scope s.heap.objs.size f cd).kindOf (ps.zip us) fun _=>none) (cellsFrom (s.heap.objs.size+1) scope.names []) (bindC (envOfC qual scope s.heap.objs.size f cd).kindOf (ps.zip us) fun _=>none) s1) :
  Inv (dD CX P w K mg base N qual scope f cd A outer s H E) [] (start N vs) H s1:=by
 have RN:ps.length<=N.length:=by have:=congrArg List.length S.pre;rw[Vn]at this;lia
 obtain⟨h1,tk,rfl,hk⟩:=x.done;have noA:∀b:Addr,b∉(dD CX P w K mg base N qual scope f cd A outer s H E).ex:=fun b z=>absurd (show b∈([]:List Addr) from z) (by simp);refine ⟨⟨e0.mod,S.kind,rfl,rfl,Nat.le_refl _,fun y z c h1 h2=>?_,fun y hy=>?_,fun y c _ h=>?_,fun _=>hd,Around.frames_deeper e0.frames,.inr ⟨rfl,rfl⟩,fun b z=>absurd z (noA b),e0.bs,e0.bsz,fun b _ _=>noA b,fun b z=>absurd z (noA b),e0.uU,e0.frf⟩,
  rfl,e0.bare,Un.kept hk,⟨_,x.toInCall.ns,fun i y v h1 h2 h3=>?_⟩,fun y c h=>⟨_,x.cell y c h⟩,e0.hok.fresh (Nat.le_refl _),fun y c h=>?_,fun p hp=>absurd (show p∈([]:List (Addr×Obj)) from hp) (by simp),e0.hok.kept hk,?_⟩
 ·exact name_of_addr x.apart (PySem.mem_of_lookup h1) (PySem.mem_of_lookup h2)
 ·have hy:scope.names.lookup y=some .cell\/scope.names.lookup y=some .free:=hy;rcases hy with hy | hy
  ·exact BF hy
  ·exact absurd rfl (S.N5 _ (PySem.mem_of_lookup hy))
 ·exact Xi (x.above y c (PySem.mem_of_lookup h))
 ·have hi:i<vs.length:=by
   unfold start at h2;by_cases hi:i<vs.length
   ·exact hi
   ·rw[UI (by simpa using hi)]at h2;rw[Vh]at h2;split at h2<;>cases h2
  have ha:vs[i]?=some v:=by
   unfold start at h2;rw[Um (by simpa using hi),UX]at h2;cases e:vs[i]? with
   |none=>rw[e]at h2;cases h2
   |some a=>rw[e]at h2;cases h2;rfl
  obtain⟨u,hu,rv⟩:=r.get ha;have hp:ps[i]?=some y:=by rw[<- S.pre,Wc (by lia)];exact h1
  have ndP:ps.Nodup:=by rw[<- S.pre];exact S.nd.sublist (List.take_sublist _ _)
  refine⟨u,rv,?_⟩;rcases S.par y (VO hp) with k | k
  ·exact .inl ⟨k,zZ ndP hp hu k⟩
  ·obtain⟨c,e⟩:=BF (n:=s.heap.objs.size+1) k;refine .inr ⟨.inl k,c,e,?_⟩;have q:=x.cell y c e;rw[z7 ndP hp hu (by show scope.names.lookup y≠_;rw[k];decide)]at q;exact q
 ·exact e0.hok.fresh (Xi (x.above y c (PySem.mem_of_lookup h)))
 ·unfold start;show _=N.length;rw[UO,Ud,Wq]
  lia
theorem Er{CX:CXT}{P:Program}{w:World}{K:gc}{mg:Str->Option Value}{base:Heap}{k:Nat}{f:Addr}{name qual:Str}{params:Arguments}{body:List Stmt}{scope:Scope}{dV kV doc pm cdv ct oc:Value}{an od:Option Addr}
  {osl:Array (Option Value)} {N ps:List Str} {sp:Sp} (lk:K.lookup f=some ⟨oc,od,.func (Vb name qual params body scope dV kV doc pm an cdv ct),osl⟩) (Sl:WX K cdv qual=true) (S:br N ps scope)
  (len:∀vs H Q E,sp vs H Q E->vs.length=ps.length)
  (hbody:∀ (A:Around) (outer:List Env) (s:Shared) (H:Hp) (vs:List V) (Q:VK) (E:XK),cS k (A.deeper (envOfC qual scope s.heap.objs.size f cdv))→sp vs H Q E →
   ∃t,PSs (dD CX P w K mg base N qual scope f cdv A outer s H E) body t/\t { nx:=fun _ H'=>Q .non H',rt:=Q } (start N vs) H) :
  cF P w K mg base CX (k+1) f (Vb name qual params body scope dV kV doc pm an cdv ct) ps sp:=by
 refine⟨len,fun A outer s H args us vs Q E hr e0 hb r hsp=>?_⟩;have hl:=len _ _ _ _ hsp;have KX:K.In s.heap:=e0.mod.kin.keeps fun b o e=>(e0.bs b o e).1;have lim:s.heap.NoLimit:=e0.mod.nolimit.keeps fun b o e=>(e0.bs b o e).1;have hkind:∀y∈ps.zip us,scope.names.lookup y.1=some .local\/(scope.names.lookup y.1=some .cell/\((cellsFrom (s.heap.objs.size+1) scope.names []).lookup y.1).isSome=true):=fun⟨n,v⟩ hy=>by
  rcases S.par n (Xk hy).1 with q | q
  ·exact .inl q
  ·exact .inr ⟨q,PySem.W.cellsFrom_some _ _ _ (.inl q)⟩
 refine codeAny_call_function hr.depth (KX _ _ lk) rfl S.co S.gen rfl (PySem.W.codeRec_of KX Sl) (hb _ _ _ _ ?_);refine wpAny_newFunctionEnv_cells S.kind hkind fun env he s1 x=>?_;subst he;refine⟨lim.keeps x.toInCall.keep,codeAny_func ?_⟩;obtain⟨t,ht,hq⟩:=hbody A outer s H vs Q E (hr.deeper _) hsp;have I:Inv (dD CX P w K mg base N qual scope f cdv A outer s H E) [] (start N vs) H s1:=FL S hr.hd e0 hl r x;refine wpAny_mono (ht [] s1 (start N vs) H _ I hq) (fun fl s' hs=>?_) fun e s' hs=>hs;have R1:∀{σ':St} {H':Hp} {v:V} {u:Value},Inv (dD CX P w K mg base N qual scope f cdv A outer s H E) [] σ' H' s'->RelV v u->Q v H'->CE outer P w H s Q u s':=
  fun {σ' H' v u} J rv q=>⟨v,H',J.os,J.bare,J.base,J.hok,rv,q⟩
 cases fl with
 |ret u=>obtain⟨v,σ',H',J,rv,q⟩:=hs;exact R1 J rv q
 |next=>obtain⟨σ',H',J,q⟩:=hs;exact R1 (v:=V.non) (u:=Value.none) J rfl q
 |brk=>obtain⟨_,_,_,q⟩:=hs;exact UH q
 |cont=>obtain⟨_,_,_,q⟩:=hs;exact UH q
end
section
variable{X:Cx}{x:Str}{p pos:Pos}{e:Expr}{es:List Expr}{t:TA}{id T:String}{r:List V->Hp->VK->Prop}
def tCB(r:List V->Hp->VK->Prop)(t:TA):TE:=fun σ H Q=>t σ H fun vs H1=>r vs H1 Q
theorem nW(hc:kH X (.builtin id) r)(hg:Gl X x)(hm:X.mg x=none)(hv:bootBuiltins x=some (.builtin id))(ha:PA X (e::es) t)(hn:x ≠ "__name__" := by decide)(RQ:(x == ("__debug__" : Str))=false:=by decide)
  (he:starEach (e::es) X.env=(false,eval e X.env)::starEach es X.env:=by rfl) (RN:(backTo pos (starEach es X.env)).any (·.1)=false:=by rfl):PE X (.Call (.Name x p) (e::es) [] pos) (tCB r t):=by
 intro Ju s σ H Q I h;refine wpAny_Call_Name_kw (xX I hg hm hv ?_ hn RQ);exact PyProof.Rows.callWith_builtin1 (thn (ha pos Ju s σ H _ I h) fun us s1 ⟨vs,H1,I1,r1,q1⟩=>hc Ju s1 σ H1 vs us Q I1 r1 q1) he RN
theorem z8(hc:kH X (.type T) r)(hg:Gl X x)(hm:X.mg x=none)(hv:bootBuiltins x=some (.type T))(ha:PA X (e::es) t)(hn:x ≠ "__name__" := by decide)(RQ:(x == ("__debug__" : Str))=false:=by decide)
  (he:starEach (e::es) X.env=(false,eval e X.env)::starEach es X.env:=by rfl) (RN:(backTo pos (starEach es X.env)).any (·.1)=false:=by rfl):PE X (.Call (.Name x p) (e::es) [] pos) (tCB r t):=by
 intro Ju s σ H Q I h;refine wpAny_Call_Name_kw (xX I hg hm hv ?_ hn RQ);exact Wy (thn (ha pos Ju s σ H _ I h) fun us s1 ⟨vs,H1,I1,r1,q1⟩=>hc Ju s1 σ H1 vs us Q I1 r1 q1) he RN
end
end L2
namespace HT
open PySem PyProof.Rows
section
variable{prog:Program}{w:World}{A:Around}{E:Value->Shared->Prop}{s:Shared}
noncomputable def sIx(n d:Nat):Option Int->Nat
 |none=>d
 |some v=>if v<0 then (v+(n:Int)).toNat else min v.toNat n
end
end HT
namespace L2
open PySem PySem.Spec PyProof.Rows
noncomputable abbrev TO:=St->Hp->(Option Int->Hp->Prop)->Prop
def PO(X:Cx)(e:Option Expr)(t:TO):Prop:=
 ∀(Ju:List (Addr×Obj)) (s:Shared) (σ:St) (H:Hp) (Q:Option Int->Hp->Prop),Inv X Ju σ H s->t σ H Q ->
  wpAny (model X.prog X.w) X.A (evalPart e X.env) (fun u s'=>∃o H',Inv X Ju σ H' s'/\IsPart u o/\Q o H') X.xe s
def AF:TO:=fun _ H Q=>Q none H
def HB(t:TE):TO:=fun σ H Q=>t σ H fun x H1=>∃i,x=.int i/\Q (some i) H1
section
variable{X:Cx}{e:Expr}{te:TE}{lo hi:Option Expr}{tl th:TO}{pos p2:Pos}
theorem KA:PO X none AF:=by intro Ju s σ H Q I h;rw[evalPart_none];exact wpAny_pure ⟨none,H,I,.none,h⟩
theorem Es(h:PE X e te):PO X (some e) (HB te):=by intro Ju s σ H Q I hw;rw[evalPart_some];refine thn (h Ju s σ H _ I hw) fun u s1 ⟨x,H1,I1,r1,q1⟩=>?_;obtain⟨i,rfl,q⟩:=q1;obtain⟨t,rfl⟩:=r1;exact⟨some i,H1,I1,.int i t,q⟩
def SlR(X:Cx)(r:V->Option Int->Option Int->Hp->VK->Prop):Prop:=
 ∀(Ju:List (Addr×Obj)) (s:Shared) (σ:St) (H:Hp) (x:V) (v vl vu:Value) (lo hi:Option Int) (sl:Addr) (Q:VK),Inv X Ju σ H s->RelV x v->s.heap.IsSliceOf sl vl vu .none->IsPart vl lo->IsPart vu hi->r x lo hi H Q ->
  ∃T id,typeLookup (.type T) "__getitem__" = pure (some (.builtin id))/\s.TypeIs v T/\wpAny (model X.prog X.w) X.A (getItem v (.ref sl)) (EP X Ju σ Q) X.xe s
def tSl(r:V->Option Int->Option Int->Hp->VK->Prop)(te:TE)(tl th:TO):TE:=fun σ H Q=>te σ H fun x H1=>tl σ H1 fun l H2=>th σ H2 fun u H3=>r x l u H3 Q
theorem HC{r:V->Option Int->Option Int->Hp->VK->Prop}(hr:SlR X r)(he:PE X e te)(hl:PO X lo tl)(hu:PO X hi th):PE X (.Subscript e (.Slice lo hi none p2) pos) (tSl r te tl th):=by intro Ju s σ H Q I h;refine Subscript_ (thn (he Ju s σ H _ I h) fun v s1 ⟨x,H1,I1,r1,q1⟩=>?_);refine wpAny_Slice (thn (hl Ju s1 σ H1 _ I1 q1) fun vl s2 ⟨l,H2,I2,pl,q2⟩=>thn (hu Ju s2 σ H2 _ I2 q2) fun vu s3 ⟨u,H3,I3,pu,q3⟩=>?_);rw[evalPart_none];refine wpAny_pure ?_;have I4:Inv X Ju σ H3 { s3 with heap:=s3.heap.push { cls:=.type "slice",data:=.fields #[vl,vu,.none] } }:=I3.kept (t':=s3.toks) fun b ob q=>Dk _ q;obtain⟨T,id,hT,ht,hg⟩:=hr Ju { s3 with heap:=s3.heap.push { cls:=.type "slice",data:=.fields #[vl,vu,.none] } } σ H3 x v vl vu l u s3.heap.objs.size Q I4 r1 (Heap.IsSliceOf.new ..) pl pu q3;show wpAny (model X.prog X.w) X.A (subscriptTail e (.Slice lo hi none p2) v (.ref s3.heap.objs.size)) (EP X Ju σ Q) X.xe { s3 with heap:=s3.heap.push { cls:=.type "slice",data:=.fields #[vl,vu,.none] } };exact tail_any (ops:=[.ref s3.heap.objs.size,v]) ht hT hg (by with_unfolding_all rfl)
noncomputable def Dc(xs:List V)(lo hi:Option Int):List V:=(xs.drop (HT.sIx xs.length 0 lo)).take (HT.sIx xs.length xs.length hi-HT.sIx xs.length 0 lo)
theorem BG(xs:List V)(lo hi:Option Int):(Dc xs lo hi).length<=xs.length:=by
 unfold Dc;rw[Vn,Wd]
 lia
end
noncomputable def ixN(n:Nat)(i:Int):Option Nat:=if 0<=i then (if i<n then some i.toNat else none) else if -(n:Int)<=i then some (i+n).toNat else none
noncomputable def atI{α:Type}(xs:List α)(i:Int):Option α:=(ixN xs.length i).bind fun j=>xs[j]?
theorem KC{n:Nat}{i:Int}{j:Nat}(h:ixN n i=some j):seqIndex? i n=some j/\j<n/\-(n:Int)<=i/\i<n:=by
 unfold ixN at h;by_cases h0:0<=i
 ·rw[if_pos h0]at h;by_cases h1:i<n
  ·rw[if_pos h1]at h;have e:i.toNat=j:=Option.some.inj h;exact⟨by rw[seqIndex_of h0 h1,e],by lia,by lia,h1⟩
  ·rw[if_neg h1]at h;cases h
 ·rw[if_neg h0]at h;by_cases h1:-(n:Int)<=i
  ·rw[if_pos h1]at h;have e:(i+n).toNat=j:=Option.some.inj h;exact⟨by rw[seqIndex_neg (by lia) h1,e],by lia,h1,by lia⟩
  ·rw[if_neg h1]at h;cases h
theorem Et{α:Type}{xs:List α}{i:Int}{v:α}(h:atI xs i=some v):∃j,seqIndex? i xs.length=some j/\xs[j]?=some v/\j<xs.length/\-(xs.length:Int)<=i/\i<xs.length:=by
 unfold atI at h;cases e:ixN xs.length i with
 |none=>rw[e]at h;cases h
 |some j=>rw[e]at h;obtain⟨h1,h2,h3,h4⟩:=KC e;exact⟨j,h1,h,h2,h3,h4⟩
def Eu(b:Expr):Prop:=∀o i,subscripted b false o i=operate [o,i] (getItem o i)
def IxR(X:Cx)(r:R2):Prop:=
 ∀(value slice:Expr) (Ju:List (Addr×Obj)) (s:Shared) (σ:St) (H:Hp) (x y:V) (v u:Value) (Q:VK),Inv X Ju σ H s->RelV x v->RelV y u->r x y H Q ->
  subscripted slice false v u=operate [v,u] (getItem v u)->wpAny (model X.prog X.w) X.A (subscriptTail value slice v u) (EP X Ju σ Q) X.xe s
def MtR(X:Cx)(id:String)(r:V->List V->Hp->VK->Prop):Prop:=
 ∀(Ju:List (Addr×Obj)) (s:Shared) (σ:St) (H:Hp) (x:V) (xs:List V) (v:Value) (us:List Value) (Q:VK),Inv X Ju σ H s->RelV x v->Vals xs us->r x xs H Q ->
  wpAny (model X.prog X.w) X.A (call (.builtin id) (v::us)) (EP X Ju σ Q) X.xe s
section
variable{X:Cx}{a b:Expr}{ta tb:TE}{pos:Pos}
theorem IxR.or{r r':R2}(h:IxR X r)(h':IxR X r'):IxR X (fun x y H Q=>r x y H Q\/r' x y H Q):=by
 intro value slice Ju s σ H x y v u Q I rx ry q hs;rcases q with q | q
 ·exact h value slice Ju s σ H x y v u Q I rx ry q hs
 ·exact h' value slice Ju s σ H x y v u Q I rx ry q hs
theorem Qp{r:R2}(hr:IxR X r)(ha:PE X a ta)(hb:PE X b tb)(hs:Eu b):PE X (.Subscript a b pos) (tOp r ta tb):=by intro Ju s σ H Q I h;exact Subscript_ (NU ha hb I h fun v u s2 x y H2 I2 rx ry q=>hr a b Ju s2 σ H2 x y v u Q I2 rx ry q (hs _ _))
def Qq(K:gc):R2:=fun x y H Q=>∃p xs i v,x=.ref p/\y=.int i/\SqL K H p xs/\atI xs i=some v/\Q v H
def Qs(K:gc):R2:=fun x y H Q=>∃p xs i v,x=.ref p/\y=.int i/\SqT K H p xs/\atI xs i=some v/\Q v H
theorem KD:IxR X (Qq X.K):=by
 intro value slice Ju s σ H x y v u Q I rx ry h hs;obtain⟨p,xs,i,z,rfl,rfl,hq,he,q⟩:=h;cases rx;obtain⟨t,rfl⟩:=ry;obtain⟨its,r,pl,hz⟩:=I.list hq;obtain⟨j,h1,h2,h3,h4,h5⟩:=Et he;obtain⟨w,ew,rw'⟩:=r.get h2;have hl:=r.length;have hn:=C6;have R1:EP X Ju σ Q w s:=⟨z,H,I,rw',q⟩
 by_cases h0:0<=i
 ·have hj:i.toNat=j:=by
   rw[seqIndex_of h0 h5]at h1;exact Option.some.inj h1
  exact item_listR pl.isList h0 (by lia) (by rw[hj];simpa using ew) R1 hs
 ·have hj:(i+(its.toArray.size:Int)).toNat=j:=by
   rw[seqIndex_neg (by lia) h4]at h1;rw[UE,<- hl];exact Option.some.inj h1
  exact subscriptTail_builtinR (x:=w) pl.isList.typeIs slot_list_getitem.lookup
   (wpAny_getItem_list_neg (Q:=fun r s'=>r=w/\EP X Ju σ Q r s') pl.isList (by lia) (by rw[UE]<;>lia) (by lia) (by rw[hj];simpa using ew) ⟨rfl,R1⟩) hs
theorem N6:IxR X (Qs X.K):=by
 intro value slice Ju s σ H x y v u Q I rx ry h hs;obtain⟨p,xs,i,z,rfl,rfl,hq,he,q⟩:=h;cases rx;obtain⟨t,rfl⟩:=ry;obtain⟨its,r,pl,hz⟩:=I.tuple hq;obtain⟨j,h1,h2,h3,h4,h5⟩:=Et he;obtain⟨w,ew,rw'⟩:=r.get h2;have hl:=r.length;have hn:=C6;have R1:EP X Ju σ Q w s:=⟨z,H,I,rw',q⟩
 exact subscriptTail_builtinR (x:=w) pl.typeIs slot_tuple_getitem.lookup
  (getItem_tuple (j:=j) (Q:=fun r s'=>r=w/\EP X Ju σ Q r s') pl (by lia) (by lia) (by rw[UE,<- hl];exact h1) (by simpa using ew) ⟨rfl,R1⟩) hs
theorem AG(lo hi:Option Int)(n:Nat):(sliceBounds lo hi none n).1=((HT.sIx n 0 lo:Nat):Int)/\(sliceBounds lo hi none n).2.1=((HT.sIx n n hi:Nat):Int)/\(sliceBounds lo hi none n).2.2=1:=by
 refine⟨?_,?_,rfl⟩
 ·cases lo with
  |none=>simp[sliceBounds,HT.sIx]
  |some i=>
   simp only[sliceBounds,HT.sIx,Option.getD_none,show (1:Int)>0 by decide,if_true];by_cases h:i<0
   ·simp only[h,if_true]<;>lia
   ·simp only[h,if_false]<;>lia
 ·cases hi with
  |none=>simp[sliceBounds,HT.sIx]
  |some i=>
   simp only[sliceBounds,HT.sIx,Option.getD_none,show (1:Int)>0 by decide,if_true];by_cases h:i<0
   ·simp only[h,if_true]<;>lia
   ·simp only[h,if_false]<;>lia
theorem zF(its:List Value)(lo hi:Option Int):slicePick its.toArray lo hi none=((its.drop (HT.sIx its.length 0 lo)).take (HT.sIx its.length its.length hi-HT.sIx its.length 0 lo)).toArray:=by obtain⟨h1,h2,h3⟩:=AG lo hi its.toArray.size;unfold slicePick;rw[h1,h2,h3];simp only[sliceRange_one,pick_run,UE]<;>rfl
def Qu(K:gc):V->Option Int->Option Int->Hp->VK->Prop:=fun x lo hi H Q=>∃a xs,x=.ref a/\SqL K H a xs/\∀p,H p=none->Q (.ref p) (upd H p (.lst (Dc xs lo hi)))
theorem KG:SlR X (Qu X.K):=by intro Ju s σ H x v vl vu lo hi sl Q I rx hs pl pu h;obtain⟨a,xs,rfl,hx,q⟩:=h;cases rx;obtain⟨its,r,ht,hz⟩:=I.list hx;have RM:=r.length;refine⟨"list",_,slot_list_getitem.lookup,ht.isList.typeIs,?_⟩;refine wpAny_getItem_list_slice ht.isList hs pl pu .none (by simp) ?_ (by rw[UE]<;>lia);rw[zF,<- RM];refine⟨.ref s.heap.objs.size,_,I.laid (t':=s.toks) (o:=.lst (Dc xs lo hi)) (fun b ob q=>Dk _ q) (Nat.le_refl _) ?_,rfl,q _ (I.hok.fresh (Nat.le_refl _))⟩;exact⟨Nat.le_trans (BG xs lo hi) hz,_,0,(r.drop (HT.sIx xs.length 0 lo)).take (HT.sIx xs.length xs.length hi-HT.sIx xs.length 0 lo),UW _ rfl⟩
theorem AH:kH X (.builtin "len") (fun xs H Q=>∃p ys,xs=[.ref p]/\(SqL X.K H p ys\/SqT X.K H p ys)/\Q (.int ys.length) H):=by
 intro Ju s σ H xs us Q I r h;obtain⟨p,ys,rfl,hq,q⟩:=h;obtain⟨u,rfl,rx⟩:=vals1 r;cases rx;have hn:=C6;rcases hq with hq | hq
 ·obtain⟨its,r',pl,hz⟩:=I.list hq;have RM:=r'.length;exact Calls.call_len_list pl.isList (by simp only[UE]<;>lia) ⟨.int ys.length,H,I.tok _,⟨s.toks+1,by rw[UE,RM]⟩,q⟩
 ·obtain⟨its,r',pl,hz⟩:=I.tuple hq;have RM:=r'.length;exact len_tuple pl (by simp only[UE]<;>lia) ⟨.int ys.length,H,I.tok _,⟨s.toks+1,by rw[UE,RM]⟩,q⟩
theorem AI:kH X (.type "list") (fun xs H Q=>∃p ys,xs=[.ref p]/\(SqL X.K H p ys\/SqT X.K H p ys)/\∀l,H l=none->Q (.ref l) (upd H l (.lst ys))):=by
 intro Ju s σ H xs us Q I r h;obtain⟨p,ys,rfl,hq,q⟩:=h;obtain⟨u,rfl,rx⟩:=vals1 r;cases rx;have R1:∀(its:List Value),Vals ys its->ys.length<=sizeLine->∀(h':Heap) (c':Nat),(∀b o',s.heap.get? b=some o'->h'.get? b=some o') ->
   h'.get? s.heap.objs.size=some { cls:=.type "list",dict:=none,data:=.seq its.toArray c',slots:=#[] }->EP X Ju σ Q (.ref s.heap.objs.size) { s with heap:=h' }:=fun its r' hz h' c' kp e=>
  ⟨.ref s.heap.objs.size,_,I.laid (t':=s.toks) kp (Nat.le_refl _) (show bZ X.prog X.w _ h' _ (.lst ys) from ⟨hz,its,c',r',e⟩),rfl,q _ (I.hok.fresh (Nat.le_refl _))⟩
 rcases hq with hq | hq
 ·obtain⟨its,r',pl,hz⟩:=I.list hq;have RM:=r'.length;obtain⟨o,ho,hc,n,hd⟩:=pl.isList;exact call_list_seq p (.inl rfl) ho hc hd (fun h' c' kp e=>R1 its r' hz h' c' kp e) (by simp only[UE]<;>lia)
 ·obtain⟨its,r',pl,hz⟩:=I.tuple hq;have RM:=r'.length;obtain⟨o,ho,hc,n,hd⟩:=pl;exact call_list_seq p (.inr rfl) ho hc hd (fun h' c' kp e=>R1 its r' hz h' c' kp e) (by simp only[UE]<;>lia)
theorem zG:kH X (.type "tuple") (fun xs H Q=>∃p ys,xs=[.ref p]/\((SqL X.K H p ys/\∀l,H l=none->Q (.ref l) (upd H l (.tup ys)))\/(SqT X.K H p ys/\Q (.ref p) H))):=by
 intro Ju s σ H xs us Q I r h;obtain⟨p,ys,rfl,h⟩:=h;obtain⟨u,rfl,rx⟩:=vals1 r;cases rx;rcases h with⟨hq,q⟩ | ⟨hq,q⟩
 ·obtain⟨its,r',pl,hz⟩:=I.list hq;have RM:=r'.length;refine call_tuple_list pl.isList (fun h' kp=>?_) (by simp only[UE]<;>lia);have I1:Inv X Ju σ H { s with heap:=h' }:=I.kept (t':=s.toks) kp;have I2:Inv X Ju σ (upd H h'.objs.size (.tup ys)) { s with heap:=h'.push { cls:=.type "tuple",data:=.seq its.toArray } }:=
   I1.laid (t':=s.toks) (fun b o e=>Dk _ e) (Nat.le_refl _) (show bZ X.prog X.w _ _ _ (.tup ys) from ⟨hz,its,r',IsTup.new _ _⟩)
  exact⟨.ref h'.objs.size,_,I2,rfl,q _ (I1.hok.fresh (Nat.le_refl _))⟩
 ·obtain⟨its,r',pl,hz⟩:=I.tuple hq;exact call_tuple_same pl ⟨.ref p,H,I,rfl,q⟩
def tyV(K:gc)(T:String)(x:V)(H:Hp):Prop:=match x with
 |.str _=>T = "str"
 |.int _=>T = "int"
 |.ref p=>(T = "list" /\ ∃xs,SqL K H p xs)\/(T = "tuple" /\ ∃o,K.lookup p=some o/\o.cls=.type "tuple" /\ o.dict=none) \/
   (T = "dict" /\ ((∃kvs,H p=some (.dK kvs))\/∃kvs ts,H p=some (.dT kvs ts)))\/(T = "set" /\ ∃S n,H p=some (.set S n))
 |_=>False
theorem HD{Ju:List (Addr×Obj)}{σ:St}{H:Hp}{s:Shared}{T:String}{x:V}{v:Value}(I:Inv X Ju σ H s)(r:RelV x v)(ty:tyV X.K T x H) :
  s.TypeIs v T/\∀a,v=.ref a->∃ob,s.heap.get? a=some ob/\ob.dict=none:=by
 cases x with
 |str z=>obtain⟨t,rfl⟩:=r;cases (show T = "str" from ty);exact⟨typeIs_str s z t,fun _ e=>nomatch e⟩
 |int i=>obtain⟨t,rfl⟩:=r;cases (show T = "int" from ty);exact⟨typeIs_int s i t,fun _ e=>nomatch e⟩
 |ref p=>
  cases r;rcases ty with⟨rfl,xs,hq⟩ | ⟨rfl,o,hk,hc,hd⟩ | ⟨rfl,hk⟩ | ⟨rfl,S,n,hk⟩
  ·obtain⟨its,_,pl,_⟩:=I.list hq;refine⟨pl.isList.typeIs,fun a e=>?_⟩;cases e;obtain⟨o,n,e,c,hd,_⟩:=pl;exact⟨o,e,hd⟩
  ·refine⟨⟨o,I.kIn p o hk,hc⟩,fun a e=>?_⟩;cases e;exact⟨o,I.kIn _ o hk,hd⟩
  ·have z:∃o,s.heap.get? p=some o/\o.ExactDict:=by
    rcases hk with⟨kvs,hk⟩ | ⟨kvs,ts,hk⟩
    ·obtain⟨_,_,_,_,o,_,_,e,ex,_⟩:=I.hok p _ hk;exact⟨o,e,ex⟩
    ·obtain⟨_,_,_,_,o,_,_,e,ex,_⟩:=I.hok p _ hk;exact⟨o,e,ex⟩
   obtain⟨o,e,ex⟩:=z;refine⟨⟨o,e,ex.1⟩,fun a e2=>?_⟩;cases e2;exact⟨o,e,ex.2.1⟩
  ·obtain⟨o,_,_,_,e,ex,_⟩:=I.hok p _ hk;refine⟨⟨o,e,ex.1⟩,fun a e2=>?_⟩;cases e2;exact⟨o,e,ex.2.1⟩
 |_=>exact UH ty
def Qv(K:gc)(T:String)(r:V->List V->Hp->VK->Prop)(to:TE):TE:=fun σ H Q=>to σ H fun x H1=>tyV K T x H1/\r x [] H1 Q
def tBM(K:gc)(T:String)(r:V->List V->Hp->VK->Prop)(to:TE)(t:TA):TE:=fun σ H Q=>to σ H fun x H1=>tyV K T x H1/\t σ H1 fun xs H2=>r x xs H2 Q
variable{o e:Expr}{es:List Expr}{to:TE}{t:TA}{name:Str}{ZK cpos:Pos}{T id:String}{r:V->List V->Hp->VK->Prop}
theorem N7(pa:PlainAttrs T)(slot:Slot T name id)(hty:typeOf (.builtin id)=pure (.type "method_descriptor"))(hm:MtR X id r)(ho:PE X o to)
  (TQ:attributeBase o name X.env (eval o X.env)=eval o X.env:=by rfl) (TN:(ZK.endLine == cpos.line)=true:=by rfl):PE X (.Call (.Attribute o name ZK) [] [] cpos) (Qv X.K T r to):=by
 intro Ju s σ H Q I h;refine wpAny_Call_method0_late TQ TN (thn (ho Ju s σ H _ I h) fun v s1 ⟨x,H1,I1,r1,ty,q1⟩=>?_);obtain⟨h1,h2⟩:=HD I1 r1 ty;exact⟨T,id,pa,slot,hty,h1,h2,W9 rfl (PySem.evalArgs_none (hm Ju s1 σ H1 x [] v [] Q I1 r1 .nil q1))⟩
theorem Qw(pa:PlainAttrs T)(slot:Slot T name id)(hty:typeOf (.builtin id)=pure (.type "method_descriptor"))(hm:MtR X id r)(ho:PE X o to)(ha:PA X (e::es) t)
  (TQ:attributeBase o name X.env (eval o X.env)=eval o X.env:=by rfl)
  (hfew:((backTo cpos (starEach (e::es) X.env)).all (fun x=>!x.1)&&(backToKw cpos (keywordEach [] X.env)).all (fun x=>x.1.isSome)
   && decide ((e::es).length+([]:List Keyword).length+(if ([]:List Keyword).isEmpty then 0 else 1)<30))=true:=by rfl)
  (TN:(ZK.endLine == cpos.line)=true:=by rfl) (hs:starEach (e::es) X.env=(false,eval e X.env)::starEach es X.env:=by rfl) (hplain:(backTo cpos (starEach es X.env)).any (·.1)=false:=by rfl) :
  PE X (.Call (.Attribute o name ZK) (e::es) [] cpos) (tBM X.K T r to t):=by
 intro Ju s σ H Q I h;refine wpAny_Call_method_late TQ hfew TN rfl (thn (ho Ju s σ H _ I h) fun v s1 ⟨x,H1,I1,r1,ty,q1⟩=>?_);obtain⟨h1,h2⟩:=HD I1 r1 ty;refine⟨T,id,pa,slot,hty,h1,h2,?_⟩;have hA:=ha cpos Ju s1 σ H1 _ I1 q1;rw[hs]at hA ⊢;refine W9 (by show (false||(backTo cpos (starEach es X.env)).any (·.1))=false;rw[hplain]<;>rfl) (Calls.evalArgs_plain ?_);exact thn hA fun us s2 ⟨vs,H2,I2,r2,q2⟩=>hm Ju s2 σ H2 x vs v us Q I2 r1 r2 q2
end
section
variable{us:List Value}{xs:List V}
def MtM(X:Cx)(id:String)(r:V->List V->Hp->VK->Prop):Prop:=
 ∀(Ju:List (Addr×Obj)) (s:Shared) (σ:St) (H:Hp) (x:V) (xs:List V) (v:Value) (us:List Value) (Q:VK),Inv X Ju σ H s->RelV x v->Vals xs us->r x xs H Q ->
  wpAny (model X.prog X.w) X.A (call (.builtin id) (v::us)) (EP X Ju σ Q) X.xe s
theorem Vals.one:∀{x:V} {us:List Value},Vals [x] us->∃u,us=[u]/\RelV x u
 |_,_,.cons r .nil=>⟨_,rfl,r⟩
theorem Vals.two:∀{x y:V} {us:List Value},Vals [x,y] us->∃u v,us=[u,v]/\RelV x u/\RelV y v
 |_,_,_,.cons r (.cons q .nil)=>⟨_,_,rfl,r,q⟩
theorem Vals.reverse(h:Vals xs us):Vals xs.reverse us.reverse:=by
 induction h with
 |nil=>exact .nil
 |cons r t ih=>rw[W4,W4];exact Vals.append ih (.cons r .nil)
theorem Vals.rep(h:Vals xs us):∀k:Nat,Vals (fj k xs).flatten (fj k us).flatten
 |0=>.nil
 |k+1=>by rw[VJ,VJ,V4,V4];exact Vals.append h (Vals.rep h k)
theorem foldl_rep(its:List Value):∀(k:Nat) (Mc:List Value),
  XO (fun x1 x2=>x1++x2) Mc.toArray (fj k its.toArray)=(Mc++(fj k its).flatten).toArray
 |0,Mc=>by simp
 |k+1,Mc=>by
  have e:Mc.toArray++its.toArray=(Mc++its).toArray:=by simp
  have e2:(Mc++its)++(fj k its).flatten=Mc++(fj (k+1) its).flatten:=by rw[VJ,V4,VC]
  rw[<- e2,<- foldl_rep its k (Mc++its),<- e,VJ,Wj]
end
section
variable{X:Cx}{Ju:List (Addr×Obj)}{σ:St}{H:Hp}{s:Shared}{l b:Addr}{xs ys zs:List V}
theorem Inv.SX{its its':List Value}{n:Nat}{f:Array Value->Array Value}{t':Nat}(I:Inv X Ju σ H s)(hH:H l=some (.lst xs))
  (e:s.heap.get? l=some { cls:=.type "list",data:=.seq its.toArray n }) (hf:f its.toArray=its'.toArray) (hv:Vals ys its') (hz:ys.length<=sizeLine) :
  Inv X Ju σ (upd H l (.lst ys)) { s with heap:=s.heap.update l (Wl f),toks:=t' }:=by
 have q:=PySem.IsL.update e f;rw[hf]at q;refine I.write (x:=l) (e:=l) (by rw[hH];exact trivial) (.inl rfl) (fun b' u hb hu=>(VW s.heap (Wl f) (Vl hb)).trans hu) ⟨_,q⟩ ?_;exact⟨hz,its',_,hv,q⟩
theorem Inv.N8{its:List Value}{t':Nat}(I:Inv X Ju σ H s)(hv:Vals ys its)(hz:ys.length<=sizeLine) :
  Inv X Ju σ (upd H s.heap.objs.size (.lst ys)) { s with heap:=s.heap.push { cls:=.type "list",data:=.seq its.toArray },toks:=t' }:=
 I.laid (fun _ _ q=>Dk _ q) (Nat.le_refl _) ⟨hz,its,0,hv,UW _ rfl⟩
theorem Inv.fresh(I:Inv X Ju σ H s):H s.heap.objs.size=none:=I.hok.fresh (Nat.le_refl _)
theorem Inv.SY(I:Inv X Ju σ H s)(hH:H l=some (.lst xs)):xs.length<=sizeLine/\∃(its:List Value) (n:Nat),Vals xs its/\xs.length=its.length/\s.heap.get? l=some { cls:=.type "list",data:=.seq its.toArray n }:=by obtain⟨z,its,n,r,e⟩:=I.hok l _ hH;exact⟨z,its,n,r,r.length,e⟩
theorem HE{n:Nat}(h:n<=sizeLine):WN n=false:=by unfold WN;exact decide_eq_false (by lia)
end
section
variable{X:Cx}
def Ew:V->List V->Hp->VK->Prop:=fun x vs H Q=>∃l xs y,x=.ref l/\vs=[y]/\H l=some (.lst xs)/\xs.length<sizeLine/\Q .non (upd H l (.lst (xs++[y])))
theorem z9:MtM X "list.append" Ew:=by
 intro Ju s σ H x vs v us Q I rx rv h;obtain⟨l,xs,y,rfl,rfl,hH,hz,q⟩:=h;cases rx;obtain⟨u,rfl,ru⟩:=rv.one;obtain⟨z,its,n,r,hl,e⟩:=I.SY hH;refine call_meets F.slot_list_append ⟨_,e,rfl⟩ F.entry_list_append (F.args_list_append_2 _ _) (PySem.list_append l its.toArray n u (by rw[UE];lia)) ⟨e,?_⟩;refine⟨.non,_,I.SX (its':=its++[u]) hH e (by simp) (r.append (.cons ru .nil)) ?_,rfl,q⟩;rw[UO,List.length_singleton]
 lia
theorem len_rep{α:Type}(xs:List α)(k:Nat):(fj k xs).flatten.length=k*xs.length:=by
 induction k with
 |zero=>simp
 |succ k ih=>rw[VJ,V4,UO,ih,Nat.succ_mul,Nat.add_comm]
end
end L2
namespace Att
open PySem PySem.W PySem.Calls PyProof.Rows
theorem wI{P:Params}{h:Heap}:∀(ns:List Int) (vs:List Value),WellAll P h vs (ns.map WData.int)->IntsAre vs ns:=by
 intro ns
 induction ns with
 |nil=>intro vs w;rw[UP]at w;cases w;exact .nil
 |cons n ns ih=>
  intro vs w;rw[Uc]at w;cases w with
  |cons a b=>cases a;exact .cons _ _ (ih _ b)
theorem FO{l:OpenLaw}{n:Nat}(hn:l.most=some n){P:Params}{h:Heap}{args:List WData}{vals:List Value}
  (hpre:l.row.toRowW.claim.pre args=true) (hwl:WellAll P h vals args) :
  ∃a vs ns,vals=[UU a]/\args=[WData.list (ns.map WData.int)]/\h.get? a=some { cls:=.type "list",data:=.seq vs.toArray }/\IntsAre vs ns/\ns.length<=n:=by
 have hsh:WShape.hasAll [] args [.list .int]=true:=(pre_splitW hpre).1;have hc:l.pre.holds [] { args:=args }=true:=(pre_splitW hpre).2;obtain⟨d,r,rfl,h1,h2⟩:=hasAllW_cons hsh;obtain rfl:=hasAllW_nil h2;obtain⟨xs,rfl,h3⟩:=hasW_list h1;obtain⟨ns,rfl⟩:=items_int h3;have RM:ns.length<=n:=by
  unfold OpenLaw.pre at hc;have h4:(WTm.not (.lt (.lit (.int (n:Int))) (.len (.arg 0)))).holds [] { args:=[.list (ns.map .int)] }=true:=by have h4:=(holds_andW hc).1;rw[hn]at h4;exact h4
  have h5:=condW_of h4 (w_not (w_lt w_lit (w_len_list (w_arg rfl))));rw[Ud]at h5;refine Nat.le_of_not_lt fun q=>?_;have q':(n:Int)<((ns.length:Nat):Int):=by omega
  first
   |(rw[decide_eq_true q']at h5;exact absurd h5 (by decide))
   |(simp at h5;omega)
 cases hwl with
 |cons w1 w2=>
  cases w2;cases w1 with
  |list ho hall=>exact⟨_,_,ns,rfl,rfl,ho,wI ns _ hall,RM⟩
theorem FP(l:OpenLaw)(args:List WData):l.row.toRowW.claim.post args (.bool true) args=true:=
 postW_of (r:=l.row.toRowW) (X:=(true == true))
  (show WShape.has [] (.bool true) .bool=true by first | rfl | decide | simp[WShape.has,WShape.arms,WShape.armsAll])
  (show (WTm.eq .res (.lit (.bool true))).value [] { args:=args,res:=some (.bool true),after:=args }=some (.bool (true == true)) from w_eq_bool (w_res rfl) w_lit) rfl
theorem BH{l:OpenLaw}{n:Nat}{q:Program}{loose:List Str}{XP:(Str->Option Value)->Heap->Prop}{YP:World->Heap->Prop}{d:DefRec}
  (hn:l.most=some n) (hdf:d.params.defaults=[])
  (call:∀ (w:World) (s₀ s₁:Shared) (mg mb:Str→Option Value) (fa:Addr) (o:Obj) (pm cd doc:Value) (a:Addr) (vs:List Value) (ns:List Int),
   Ground q loose [] XP w s₀ mg mb s₁.heap->YP w s₁.heap ->
   s₁.heap.get? fa=some o->o.data=.func (docDef d.name d.params d.body d.scope pm cd doc)->s₁.heap.CodeRec cd d.name->mg d.name=some (.ref fa) ->
   s₁.heap.get? a=some { cls:=.type "list",data:=.seq vs.toArray }->IntsAre vs ns->ns.length<=n->s₁.gens=#[] ->
   codeAny (model l.prog w) callerA (.call (.ref fa) ⟨[.ref a],[]⟩) (fun r s'=>r=.ok (.ret (.bool true))/\OldK s₁.heap s'.heap/\s'.os=s₁.os/\AllBare s'.gens) s₁) :
  WalkO q loose XP YP l.row.toRowW d [] (fun f vs=>PySem.call f vs):=by
 intro w s₀ s₁ mg mb G Y fa o pm cd doc dV kV ho hd Sl hD hmg hg args vals as hpre hlay hrd hwl hlo;obtain rfl:dV=.none:=Dflts.none hD hdf;obtain rfl:kV=.none:=Dflts.noKw hD;obtain⟨a,vs,ns,rfl,rfl,hobj,hints,RM⟩:=FO hn hpre hwl;refine enter_call (codeAny_mono (call w s₀ s₁ mg mb fa o pm cd doc a vs ns G Y ho (fd_plain hd) Sl hmg hobj hints RM hg) fun r s' hq=>?_);obtain⟨rfl,h2,h3,h4⟩:=hq;exact⟨.inl ⟨.bool true,.bool true,[],rfl,fun _=>rfl,.bool true,FP l _,fun _=>⟨XH.nil,fun _ hm=>(nomatch hm)⟩⟩,h2,h3,h4⟩
end Att
namespace L2
open PySem PySem.Spec PyProof.Rows
theorem z_:∀{vs:List Value} {ns:List Int},IntsAre vs ns->Vals (ns.map V.int) vs
 |_,_,.nil=>.nil
 |_,_,.cons n t h=>.cons ⟨t,rfl⟩ (z_ h)
def N9(H:Hp):Prop:=∀b,H b=none\/∃o xs,H b=some (.frz o (.lst xs))
theorem HF{P:Program}{w:World}{K:gc}{mg mb:Str->Option Value}{CX:CXT}{k:Nat}{fa a:Addr}{fd:FuncData}{x:Str}{sp:Sp}{s₁:Shared}{vs:List Value}{ns:List Int}
  (KX:K.In s₁.heap) (hns:s₁.heap.Ns mainGlobals mg) (hb:s₁.heap.Ns builtinsNs mb) (hbb:∀x:Str,x ≠ "__name__" -> mb x=bootBuiltins x) (hlim:s₁.heap.NoLimit) (hg:s₁.gens=#[])
  (ha:s₁.heap.get? a=some { cls:=.type "list",data:=.seq vs.toArray }) (hi:IntsAre vs ns) (hl:ns.length<=sizeLine) (hr:cS k callerA)
  (F:∀base:Heap,K.In base->base.Ns mainGlobals mg->cF P w K mg base CX k fa fd [x] sp) (hbind:∀(s:Shared) (u:Value),BindsTo s fd ⟨[u],[]⟩ [(x,u)])
  (hsp:∀H:Hp,N9 H->SqL K H a (ns.map V.int)->sp [.ref a] H (fun v _=>v=.bl true) fun _ _ _=>False)
  (hCX:∀H e s',CX [] H s₁ (fun _ _ _=>False) e s'->False) :
  codeAny (model P w) callerA (.call (.ref fa) ⟨[.ref a],[]⟩) (fun r s'=>r=.ok (.ret (.bool true))/\OldK s₁.heap s'.heap/\s'.os=s₁.os/\AllBare s'.gens) s₁:=by
 have rv:=z_ hi;have S0:=hi.length;have core:∀H:Hp,N9 H->SqL K H a (ns.map V.int)->HOk P w H s₁.heap->(∀b,H b≠none->b=a)->(H a≠none->K.lookup a=none) ->
   codeAny (model P w) callerA (.call (.ref fa) ⟨[.ref a],[]⟩) (fun r s'=>r=.ok (.ret (.bool true))/\OldK s₁.heap s'.heap/\s'.os=s₁.os/\AllBare s'.gens) s₁:=by
  intro H hO hS hok hA hK;have Ex:∀{b:Addr} {o:Obj},s₁.heap.get? b=some o->H b=none->(AB s₁.heap H).get? b=some o:=fun e n=>G6 e n;have noA:∀{b:Addr} {o:Obj} {es:Array DictEntry} {ep:Nat},s₁.heap.get? b=some o->o.data=.dict es ep->H b=none:=fun {b o es ep} e d=>by
   cases q:H b with
   |none=>rfl
   |some u=>have e':b=a:=hA b (by rw[q];simp);subst e';rw[ha]at e;cases e;have d':Data.seq vs.toArray _=Data.dict es ep:=d;cases d'
  have nsK:∀{b:Addr} {m:Str->Option Value},s₁.heap.Ns b m->(AB s₁.heap H).Ns b m:=fun {b m} ⟨o,es,ep,e,d,r⟩=>⟨o,es,ep,Ex e (noA e d),d,r⟩;have hKb:K.In (AB s₁.heap H):=fun b o e=>Ex (KX b o e) (by
   cases q:H b with
   |none=>rfl
   |some u=>have e':b=a:=hA b (by rw[q];simp);subst e';rw[hK (by rw[q];simp)]at e;cases e)
  have hM:Mod K mg (AB s₁.heap H):=⟨hKb,nsK hns,⟨mb,nsK hb,hbb⟩,let ⟨mc,h1,h2⟩:=hlim;⟨mc,nsK h1,h2⟩⟩
  have e0:C_ P w K mg (AB s₁.heap H) callerA [] s₁ H:=⟨rfl,hM,fun b o e=>Kn e,Nat.le_of_eq (Fw _ _),trivial,fun b hb=>absurd (show b∈([]:List Addr) from hb) (by simp),hok,.of_eq hg⟩
  refine codeAny_mono ((F _ hKb (nsK hns)).run callerA [] s₁ H ⟨[.ref a],[]⟩ [.ref a] [.ref a] _ _ hr e0 (hbind s₁ (.ref a)) (.cons rfl .nil) (hsp H hO hS)) fun r s' h=>?_;cases r with
  |error e=>exact(hCX H e s' h).elim
  |ok fl=>
   cases fl with
   |next=>exact UH h
   |brk=>exact UH h
   |cont=>exact UH h
   |ret u=>
    obtain⟨v,H',os,bare,un,S1,r',q⟩:=h;have q':v=.bl true:=q;subst q';obtain rfl:u=Yd true:=r';refine⟨rfl,OldK.of_keep fun b o e=>?_,os,bare⟩;cases q:H b with
    |none=>exact un.keep b o e q (by intro z;exact absurd (show b∈([]:List Addr) from z) (by simp)) (by simp)
    |some u=>
     rcases hO b with z | ⟨ob,xs,z⟩
     ·rw[q]at z;cases z
     ·have z2:=un.uT b ob _ z;obtain⟨e1,_⟩:=hok b _ z;obtain⟨e2,_⟩:=S1 b _ z2;rw[e]at e1;cases e1;exact e2
 cases hk:K.lookup a with
 |some o=>have e:=KX a o hk;rw[ha]at e;cases e;refine core (fun _=>none) (fun _=>.inl rfl) (.inr ⟨_,vs.toArray,_,hk,rfl,rfl,rfl,by rw[UE,S0];exact hl,by simpa using rv⟩) (fun b u z=>by have z':(none:Option HO)=some u:=z;cases z') (fun b z=>absurd rfl z) fun z=>absurd rfl z
 |none=>
  refine core (fun b=>if b=a then some (.frz { cls:=.type "list",data:=.seq vs.toArray } (.lst (ns.map V.int))) else none) (fun b=>?_) (.inl (.inr ⟨{ cls:=.type "list",data:=.seq vs.toArray },if_pos rfl⟩)) (fun b u z=>?_) (fun b z=>?_) fun _=>hk
  ·by_cases hb:b=a
   ·exact .inr ⟨_,_,if_pos hb⟩
   ·exact .inl (if_neg hb)
  ·by_cases hb:b=a
   ·have z':=(if_pos hb).symm.trans z;cases z';subst hb;exact⟨ha,by rw[Ud];exact hl,vs,_,rv,ha⟩
   ·have z':=(if_neg hb).symm.trans z;cases z'
  ·by_cases hb:b=a
   ·exact hb
   ·exact absurd (if_neg hb) z
theorem KH{l:XY}{n k:Nat}{q:Program}{loose:List Str}{XP:(Str->Option Value)->Heap->Prop}{YP:World->Heap->Prop}{d:DefRec}{K:Params->gc}{CX:World->CXT}{sp:World->Sp}{x:Str}
  (hn:l.most=some n) (hn2:n<=sizeLine) (hdf:d.params.defaults=[]) (hr:cS k callerA)
  (hY:∀(w:World) (h:Heap),YP w h->(K w.params).In h)
  (F:∀ (w:World) (mg:Str→Option Value) (fa:Addr) (h:Heap),(K w.params).In h→h.Ns mainGlobals mg→mg d.name=some (.ref fa) →
   ∃fd:FuncData,(∀(s:Shared) (u:Value),BindsTo s fd ⟨[u],[]⟩ [(x,u)]) /\
    ∀base:Heap,(K w.params).In base->base.Ns mainGlobals mg->cF l.prog w (K w.params) mg base (CX w) k fa fd [x] (sp w))
  (hsp:∀(w:World) (H:Hp) (a:Addr) (ns:List Int),ns.length<=n->N9 H->SqL (K w.params) H a (ns.map V.int)->sp w [.ref a] H (fun v _=>v=.bl true) fun _ _ _=>False)
  (hCX:∀(w:World) (H:Hp) (s:Shared) (e:Value) (s':Shared),CX w [] H s (fun _ _ _=>False) e s'->False) :
  PySem.W.WalkO q loose XP YP l.row.toRowW d [] (fun f vs=>PySem.call f vs):=by
 refine Att.BH hn hdf fun w s₀ s₁ mg mb fa o pm cd doc a vs ns G Y ho hd Sl hmg hobj hints RM hg=>?_;have KX:=hY w _ Y;obtain⟨fd,hb,hF⟩:=F w mg fa _ KX G.T.g hmg;exact HF KX G.T.g G.T.b G.T.builtins G.T.nolimit hg hobj hints (Nat.le_trans RM hn2) hr hF hb (fun H hO hS=>hsp w H a ns RM hO hS) fun H e s'=>hCX w H s₁ e s'
noncomputable def cR(s:Stmt):Arguments:=match s with
 |.FunctionDef _ a _ _ _ _ _ _ _ _=>a
 |_=>{ posonlyargs:=[],args:=[],vararg:=none,kwonlyargs:=[],kw_defaults:=[],kwarg:=none,defaults:=[] }
noncomputable def bR(s:Stmt):List Stmt:=match s with
 |.FunctionDef _ _ b _ _ _ _ _ _ _=>b
 |_=>[]
noncomputable def aG(s:Stmt):Scope:=match s with
 |.FunctionDef _ _ _ _ _ _ sc _ _ _=>sc
 |_=>{ kind:=.function,names:=[],isGenerator:=false,isCoroutine:=false }
noncomputable abbrev CX0:CXT:=fun _ _ _ _ _ _=>False
noncomputable abbrev E0:XK:=fun _ _ _=>False
theorem MS{X:Cx}:Passes CX0 X E0:=fun _ _ _ _ _ _ _ h=>h.elim
structure Fun(K:gc)(x qual:Str)(st:Stmt)(f:Addr)(fd:FuncData):Prop where
 ex:∃(oc:Value) (od:Option Addr) (kV doc pm:Value) (an:Option Addr) (cdv ct:Value) (osl:Array (Option Value)),
  fd=Vb x qual (cR st) (bR st) (aG st) .none kV doc pm an cdv ct/\K.lookup f=some ⟨oc,od,.func fd,osl⟩/\WX K cdv qual=true
 kp:Ut K (.ref f)=true
section
variable{P:Program}{w:World}{K:gc}{mg:Str->Option Value}{base:Heap}
section
variable{x qual:Str}{st:Stmt}{fd:FuncData}{f:Addr}
theorem Fun.ok{N ps:List Str}{k:Nat}{sp:Sp}(F:Fun K x qual st f fd)(S:br N ps (aG st))(len:∀vs H Q E,sp vs H Q E->vs.length=ps.length)
  (hbody:∀ (cdv:Value) (A:Around) (outer:List Env) (s:Shared) (H:Hp) (vs:List V) (Q:VK) (E:XK),cS k (A.deeper (envOfC qual (aG st) s.heap.objs.size f cdv))→sp vs H Q E →
   ∃t,PSs (dD CX0 P w K mg base N qual (aG st) f cdv A outer s H E).nox (bR st) t/\t { nx:=fun _ H'=>Q .non H',rt:=Q } (start N vs) H):cF P w K mg base CX0 (k+1) f fd ps sp:=by
 obtain⟨oc,od,kV,doc,pm,an,cdv,ct,osl,rfl,lk,Sl⟩:=F.ex;refine Er lk Sl S len fun A outer s H vs Q E hr hsp=>?_;obtain⟨t,h,q⟩:=hbody cdv A outer s H vs Q E hr hsp;exact⟨t,h.nox,q⟩
theorem Fun.binds{ps:List Str}(F:Fun K x qual st f fd)
  (h:∀(kV doc pm:Value) (an:Option Addr) (cdv ct:Value) (us:List Value),us.length=ps.length->bindArgs (Vb x qual (cR st) (bR st) (aG st) .none kV doc pm an cdv ct) ⟨us,[]⟩=pure (ps.zip us)):Binds K fd ps []:=by
 obtain⟨oc,od,kV,doc,pm,an,cdv,ct,osl,rfl,lk,Sl⟩:=F.ex;exact .all (h kV doc pm an cdv ct)
theorem HG{oc:Value}{od an:Option Addr}{osl:Array (Option Value)}{kV doc pm cdv ct:Value}(l:K.lookup f=some ⟨oc,od,.func (Vb x qual (cR st) (bR st) (aG st) .none kV doc pm an cdv ct),osl⟩)
  (c:WX K cdv qual=true) (k:Ut K (.ref f)=true):Fun K x qual st f (Vb x qual (cR st) (bR st) (aG st) .none kV doc pm an cdv ct):=⟨⟨oc,od,kV,doc,pm,an,cdv,ct,osl,rfl,l,c⟩,k⟩
end
end
section
variable{X:Cx}
theorem pv(i:Nat){x:Str}{pos:Pos}(hN:X.N[i]?=some x:=by rfl)(hv:Vis X.env.scope x:=by trivial)(hd:(x == ("__debug__" : Str))=false:=by decide)
  (Sl:(x == ("__classdict__" : Str))=false:=by decide):PE X (.Name x pos) (Bx i):=C3 hN hv hd Sl
end
def bg(H H':Hp):Prop:=∀b o,H b=some o->H' b=some o
theorem bg.refl(H:Hp):bg H H:=fun _ _ h=>h
theorem bg.trans{H H1 H2:Hp}(a:bg H H1)(b:bg H1 H2):bg H H2:=fun c o h=>b c o (a c o h)
theorem bg.free{H H':Hp}(e:bg H H'){l:Addr}(h:H' l=Option.none):H l=Option.none:=by
 cases q:H l with
 |none=>rfl
 |some o=>rw[e l o q]at h;cases h
section
variable{X:Cx}{Ju:List (Addr×Obj)}{σ:St}{H:Hp}{s:Shared}{a:Addr}{y v:V}{u r:Value}{o:Option V}{A:Around}{E:Value->Shared->Prop}
theorem Inv.big(I:Inv X Ju σ H s):sysModules<s.heap.objs.size:=by have h:mainGlobals<s.heap.objs.size:=(I.mod.glob.keeps I.bk).lt;exact Yj (by decide) h
end
theorem HH{P:Program}{w:World}{H:Hp}(h:Heap)(hb:sysModules<h.objs.size):bZ P w H (h.push { cls:=.type "dict",data:=.dict #[] }) h.objs.size (.dK []):=
 ⟨U6 _,beq_eq_false_iff_ne.mpr (Vl (UM hb)),[],.nil,Heap.DictOf.new h⟩
def HJ:TE:=fun _ H Q=>∀p,H p=none->Q (.ref p) (upd H p (.dK []))
section
variable{X:Cx}{pos:Pos}
theorem HK:PE X (.Dict [] [] pos) HJ:=fun Ju s σ H Q I h=>wpAny_Dict_empty ⟨.ref s.heap.objs.size,_,I.laid (a:=s.heap.objs.size) (o:=.dK []) (t':=s.toks) (fun _ _ q=>Dk _ q) (Nat.le_refl _) (HH s.heap I.big),rfl,h _ (I.hok.fresh (Nat.le_refl _))⟩
end
end L2
namespace Dm
inductive Dat where
 |non
 |bl (b:Bool)
 |int (i:Int)
 |str (s:List Nat)
 |tup (xs:List Dat)
 |lst (xs:List Dat)
 |dct (ks:List Int) (vs:List Dat)
 |dcp (ks:List (Int×Int)) (vs:List Dat)
 |exc (C:Nat)
 |cz (C:Nat) (v:Int)
 |fn (a:Nat)
deriving Inhabited
inductive Cell where
 |un
 |sh (d:Dat)
 |ow (d:Dat)
deriving Inhabited
noncomputable abbrev Env:=List Cell
inductive Val where
 |val (d:Dat)
 |slot (i:Nat)
 |new (d:Dat)
inductive RV where
 |val (d:Dat)
 |new (d:Dat)
noncomputable def RV.dat:RV->Dat
 |.val d=>d
 |.new d=>d
noncomputable def RV.bI:RV->Val
 |.val d=>.val d
 |.new d=>.new d
noncomputable def SZ:Nat:=100000
noncomputable def bW:Dat->Bool
 |.tup _=>true
 |.lst _=>true
 |.dct _ _=>true
 |.dcp _ _=>true
 |.exc _=>true
 |.cz _ _=>true
 |_=>false
noncomputable def pk(ρ:Env):Val->Option Dat
 |.val d=>some d
 |.new d=>some d
 |.slot i=>match ρ[i]? with
  |some (.ow d)=>some d
  |some (.sh d)=>some d
  |_=>none
noncomputable def tk(ρ:Env):Val->Option (Dat×Env)
 |.val d=>some (d,ρ)
 |.new d=>some (d,ρ)
 |.slot i=>match ρ[i]? with
  |some (.ow d)=>some (d,ρ.set i (.sh d))
  |some (.sh d)=>some (d,ρ)
  |_=>none
noncomputable def pks(ρ:Env):List Val->Option (List Dat)
 |[]=>some []
 |x::r=>match pk ρ x with
  |none=>none
  |some d=>match pks ρ r with
   |none=>none
   |some ds=>some (d::ds)
noncomputable def tks(ρ:Env):List Val->Option (List Dat×Env)
 |[]=>some ([],ρ)
 |x::r=>match tk ρ x with
  |none=>none
  |some (d,ρ1)=>match tks ρ1 r with
   |none=>none
   |some (ds,ρ2)=>some (d::ds,ρ2)
noncomputable abbrev FE:=Env->Option (Val×Env)
noncomputable abbrev FT:=Env->Option (Bool×Env)
noncomputable def eC(d:Dat):FE:=fun ρ=>some (.val d,ρ)
noncomputable def eV(i:Nat):FE:=fun ρ=>match ρ[i]? with
 |some (.sh d)=>some (.val d,ρ)
 |some (.ow _)=>some (.slot i,ρ)
 |_=>none
noncomputable def e1(g:Dat->Option RV)(a:FE):FE:=fun ρ=>match a ρ with
 |none=>none
 |some (x,ρ1)=>match pk ρ1 x with
  |none=>none
  |some d=>match g d with
   |none=>none
   |some v=>some (v.bI,ρ1)
noncomputable def e2(g:Dat->Dat->Option RV)(a b:FE):FE:=fun ρ=>match a ρ with
 |none=>none
 |some (x,ρ1)=>match b ρ1 with
  |none=>none
  |some (y,ρ2)=>match pk ρ2 x with
   |none=>none
   |some d=>match pk ρ2 y with
    |none=>none
    |some e=>match g d e with
     |none=>none
     |some v=>some (v.bI,ρ2)
noncomputable def eAs:List FE->Env->Option (List Val×Env)
 |[],ρ=>some ([],ρ)
 |a::r,ρ=>match a ρ with
  |none=>none
  |some (x,ρ1)=>match eAs r ρ1 with
   |none=>none
   |some (xs,ρ2)=>some (x::xs,ρ2)
noncomputable def eB(g:List Dat->Option RV)(as:List FE):FE:=fun ρ=>match eAs as ρ with
 |none=>none
 |some (xs,ρ1)=>match pks ρ1 xs with
  |none=>none
  |some ds=>match g ds with
   |none=>none
   |some v=>some (v.bI,ρ1)
noncomputable def bJ(as:List FE):FE:=fun ρ=>match eAs as ρ with
 |none=>none
 |some (xs,ρ1)=>match tks ρ1 xs with
  |none=>none
  |some (ds,ρ2)=>if ds.length<=SZ then some (.val (.tup ds),ρ2) else none
noncomputable def bS(as:List FE):FE:=fun ρ=>match eAs as ρ with
 |none=>none
 |some (xs,ρ1)=>match tks ρ1 xs with
  |none=>none
  |some (ds,ρ2)=>if ds.length<=SZ then some (.new (.lst ds),ρ2) else none
noncomputable def eF(f:List Dat->Option RV)(as:List FE):FE:=fun ρ=>match eAs as ρ with
 |none=>none
 |some (xs,ρ1)=>match pks ρ1 xs with
  |none=>none
  |some ds=>match f ds with
   |none=>none
   | some v=>if bW v.dat then (match tks ρ1 xs with
     |none=>none
     |some (_,ρ2)=>some (v.bI,ρ2)) else some (v.bI,ρ1)
noncomputable def eIf(t:FT)(a b:FE):FE:=fun ρ=>match t ρ with
 |none=>none
 |some (true,ρ1)=>a ρ1
 |some (false,ρ1)=>b ρ1
noncomputable def dI(a b:FE):FE:=fun ρ=>match a ρ with
 |some (.val (.bl true),ρ1)=>b ρ1
 |some (.val (.bl false),ρ1)=>some (.val (.bl false),ρ1)
 |_=>none
noncomputable def eOr(a b:FE):FE:=fun ρ=>match a ρ with
 |some (.val (.bl true),ρ1)=>some (.val (.bl true),ρ1)
 |some (.val (.bl false),ρ1)=>b ρ1
 |_=>none
noncomputable def eW(a:FE):FE:=fun ρ=>match a ρ with
 |some (.val (.bl c),ρ1)=>some (.val (.bl (!c)),ρ1)
 |_=>none
noncomputable def tV(a:FE):FT:=fun ρ=>match a ρ with
 |some (.val (.bl c),ρ1)=>some (c,ρ1)
 |_=>none
noncomputable def bM(t:FT):FT:=fun ρ=>match t ρ with
 |some (c,ρ1)=>some (!c,ρ1)
 |none=>none
noncomputable def dB(t u:FT):FT:=fun ρ=>match t ρ with
 |some (true,ρ1)=>u ρ1
 |some (false,ρ1)=>some (false,ρ1)
 |none=>none
noncomputable def tOr(t u:FT):FT:=fun ρ=>match t ρ with
 |some (true,ρ1)=>some (true,ρ1)
 |some (false,ρ1)=>u ρ1
 |none=>none
noncomputable def bD:FT:=fun ρ=>some (true,ρ)
noncomputable abbrev FI:=Env->Option (List Dat×Env)
noncomputable def iL(a:FE):FI:=fun ρ=>match a ρ with
 |none=>none
 |some (x,ρ1)=>match tk ρ1 x with
  |some (.lst ds,ρ2)=>some (ds,ρ2)
  |_=>none
noncomputable def iT(a:FE):FI:=fun ρ=>match a ρ with
 |none=>none
 |some (x,ρ1)=>match tk ρ1 x with
  |some (.tup ds,ρ2)=>some (ds,ρ2)
  |_=>none
noncomputable def iS(a:FE):FI:=fun ρ=>match a ρ with
 |none=>none
 |some (x,ρ1)=>match tk ρ1 x with
  |some (.lst ds,ρ2)=>some (ds,ρ2)
  |some (.tup ds,ρ2)=>some (ds,ρ2)
  |_=>none
noncomputable def ups(lo:Int)(n:Nat):List Dat:=(UG n).map fun i=>Dat.int (lo+(i:Nat))
noncomputable def BIG:Int:=1000000000
noncomputable def iR1(a:FE):FI:=fun ρ=>match a ρ with
 |some (.val (.int j),ρ1)=>if j<=BIG/\-BIG<=j then some (ups 0 j.toNat,ρ1) else none
 |_=>none
noncomputable def iR2(a b:FE):FI:=fun ρ=>match a ρ with
 | some (.val (.int i),ρ1)=>(match b ρ1 with
  |some (.val (.int j),ρ2)=>if j<=BIG/\-BIG<=j/\i<=BIG/\-BIG<=i then some (ups i (j-i).toNat,ρ2) else none
  |_=>none)
 |_=>none
noncomputable abbrev FB:=Dat->Env->Option Env
noncomputable def bN(i:Nat):FB:=fun d ρ=>if i=0 then none else some (ρ.set i (.sh d))
noncomputable def sets:List Nat->List Dat->Env->Option Env
 |[],[],ρ=>some ρ
 |i::is,d::ds,ρ=>if i=0 then none else sets is ds (ρ.set i (.sh d))
 |_,_,_=>none
noncomputable def bT(is:List Nat):FB:=fun d ρ=>match d with
 |.tup ds=>sets is ds ρ
 |_=>none
noncomputable def nX(bd:FB)(t:FT)(el:FE):List Dat->Env->List Dat->Option (List Dat×Env)
 |[],ρ,Mc=>some (Mc,ρ)
 |d::r,ρ,Mc=>match bd d ρ with
  |none=>none
  |some ρ1=>match t ρ1 with
   |none=>none
   |some (false,ρ2)=>nX bd t el r ρ2 Mc
   |some (true,ρ2)=>match el ρ2 with
    |none=>none
    |some (x,ρ3)=>match tk ρ3 x with
     |none=>none
     |some (y,ρ4)=>nX bd t el r ρ4 (Mc++[y])
noncomputable def nF(it:FI)(own:Nat)(bd:FB)(t:FT)(el:FE):FE:=fun ρ=>match it ρ with
 |none=>none
 | some (ds,ρ1)=>if ds.length≤SZ then (match nX bd t el ds (ρ1++fj own .un) [] with
  |none=>none
  |some (ys,ρ2)=>some (.new (.lst ys),ρ2.take ρ1.length)) else none
inductive Out where
 |nx (ρ:Env)
 |ret (r:RV) (ρ:Env)
 |bk (ρ:Env)
 |ct (ρ:Env)
noncomputable abbrev FS:=Env->Option Out
noncomputable def sNx:FS:=fun ρ=>some (.nx ρ)
noncomputable def aO(s u:FS):FS:=fun ρ=>match s ρ with
 |some (.nx ρ1)=>u ρ1
 |o=>o
noncomputable def sA(i:Nat)(e:FE):FS:=fun ρ=>if i=0 then none else match e ρ with
 |none=>none
 |some (.new d,ρ1)=>some (.nx (ρ1.set i (.ow d)))
 |some (x,ρ1)=>match tk ρ1 x with
  |none=>none
  |some (d,ρ2)=>some (.nx (ρ2.set i (.sh d)))
noncomputable def sU(is:List Nat)(e:FE):FS:=fun ρ=>match e ρ with
 |none=>none
 |some (x,ρ1)=>match tk ρ1 x with
  | some (.tup ds,ρ2)=>(match sets is ds ρ2 with
   |none=>none
   |some ρ3=>some (.nx ρ3))
  |_=>none
noncomputable def sE(e:FE):FS:=fun ρ=>match e ρ with
 |none=>none
 |some (_,ρ1)=>some (.nx ρ1)
noncomputable def sR(e:FE):FS:=fun ρ=>match e ρ with
 |none=>none
 |some (.new d,ρ1)=>some (.ret (.new d) ρ1)
 |some (.val d,ρ1)=>some (.ret (.val d) ρ1)
 |some (.slot i,ρ1)=>match ρ1[i]? with
  |some (.ow d)=>some (.ret (.new d) (ρ1.set i .un))
  |some (.sh d)=>some (.ret (.val d) ρ1)
  |_=>none
noncomputable def sIf(t:FT)(a b:FS):FS:=fun ρ=>match t ρ with
 |none=>none
 |some (true,ρ1)=>a ρ1
 |some (false,ρ1)=>b ρ1
noncomputable def dF(i:Nat)(e:FE):FS:=fun ρ=>match ρ[i]? with
 | some (.ow (.lst _))=>(match e ρ with
  |none=>none
  |some (x,ρ1)=>match tk ρ1 x with
   |none=>none
   |some (d,ρ2)=>match ρ2[i]? with
    |some (.ow (.lst ds))=>if ds.length<SZ then some (.nx (ρ2.set i (.ow (.lst (ds++[d]))))) else none
    |_=>none)
 |_=>none
noncomputable def ixN(n:Nat)(i:Int):Option Nat:=
 if 0<=i then (if i<n then some i.toNat else none) else if -(n:Int)<=i then some (i+n).toNat else none
noncomputable def kD(bd:FB)(body:FS):List Dat->FS
 |[],ρ=>some (.nx ρ)
 |d::r,ρ=>match bd d ρ with
  |none=>none
  |some ρ1=>match body ρ1 with
   |some (.nx ρ2)=>kD bd body r ρ2
   |some (.ct ρ2)=>kD bd body r ρ2
   |some (.bk ρ2)=>some (.nx ρ2)
   |some (.ret v ρ2)=>some (.ret v ρ2)
   |none=>none
noncomputable def dc(it:FI)(bd:FB)(body:FS):FS:=fun ρ=>match it ρ with
 |none=>none
 |some (ds,ρ1)=>kD bd body ds ρ1
noncomputable def whD(t:FT)(body:FS):Nat->FS
 |0,_=>none
 |n+1,ρ=>match t ρ with
  |none=>none
  |some (false,ρ1)=>some (.nx ρ1)
  |some (true,ρ1)=>match body ρ1 with
   |some (.nx ρ2)=>whD t body n ρ2
   |some (.ct ρ2)=>whD t body n ρ2
   |some (.bk ρ2)=>some (.nx ρ2)
   |some (.ret v ρ2)=>some (.ret v ρ2)
   |none=>none
noncomputable def fn(n m:Nat)(body:FS)(ds:List Dat):Option RV:=if ds.length=n then (match body (ds.map Cell.sh++fj m .un) with
 |some (.ret r _)=>some r
 |some (.nx _)=>some (.val .non)
 |_=>none) else none
noncomputable def b2i(b:Bool):Int:=if b then 1 else 0
mutual
noncomputable def eqD:Dat->Dat->Bool
 |.non,.non=>true
 |.bl a,.bl b=>a == b
 |.bl a,.int j=>b2i a == j
 |.int i,.bl b=>i == b2i b
 |.int i,.int j=>i == j
 |.str a,.str b=>a == b
 |.tup xs,.tup ys=>Dd xs ys
 |.lst xs,.lst ys=>Dd xs ys
 |_,_=>false
noncomputable def Dd:List Dat->List Dat->Bool
 |[],[]=>true
 |x::xs,y::ys=>eqD x y&&Dd xs ys
 |_,_=>false
end
noncomputable def okD:Nat->Dat->Bool
 |_,.dct _ _=>false
 |_,.dcp _ _=>false
 |_,.exc _=>false
 |_,.cz _ _=>false
 |_,.fn _=>false
 |_,.str s=>s.all fun c=>decide (c<128)
 |0,.tup _=>false
 |0,.lst _=>false
 |n+1,.tup xs=>xs.all (okD n)
 |n+1,.lst xs=>xs.all (okD n)
 |_,_=>true
noncomputable abbrev vB(b:Bool):Option RV:=some (.val (.bl b))
noncomputable def tK(p:Dat->Bool):Dat->Option RV
 |.exc _=>none
 |.cz _ _=>none
 |.fn _=>none
 |d=>vB (p d)
noncomputable abbrev vI(i:Int):Option RV:=some (.val (.int i))
noncomputable def gEq(x y:Dat):Option RV:=if okD 8 x&&okD 8 y then vB (eqD x y) else none
noncomputable def gNe(x y:Dat):Option RV:=if okD 8 x&&okD 8 y then vB (!eqD x y) else none
noncomputable def gLt:Dat->Dat->Option RV
 |.int i,.int j=>vB (decide (i<j))
 |_,_=>none
noncomputable def gLe:Dat->Dat->Option RV
 |.int i,.int j=>vB (decide (i<=j))
 |_,_=>none
noncomputable def gGt:Dat->Dat->Option RV
 |.int i,.int j=>vB (decide (j<i))
 |_,_=>none
noncomputable def B64:Int:=18446744073709551616
noncomputable def bh:Dat->Dat->Option RV
 |.int i,.int j=>vI (i+j)
 |.lst xs,.lst ys=>if xs.length+ys.length<=SZ then some (.new (.lst (xs++ys))) else none
 |_,_=>none
noncomputable def dG:Dat->Dat->Option RV
 |.int i,.int j=>vI (i-j)
 |_,_=>none
noncomputable def cH:Dat->Dat->Option RV
 |.int i,.int j=>if (-B64<i/\i<B64)\/(-B64<j/\j<B64) then vI (i*j) else none
 |.lst xs,.int k=>if k<=BIG/\-BIG<=k/\xs.length*k.toNat<=SZ then some (.new (.lst (fj k.toNat xs).flatten)) else none
 |_,_=>none
noncomputable def mF:Int:=1606938044258990275541962092341162602522202993782792835301376
noncomputable def cK:Dat->Dat->Option RV
 |.int i,.int j=>if 0<j/\j<mF then vI (i / j) else none
 |_,_=>none
noncomputable def bu:Dat->Dat->Option RV
 |.int i,.int j=>if 0<j then vI (i % j) else none
 |_,_=>none
noncomputable def cX:Dat->Dat->Option RV
 |.int i,.int j=>if 0<=j/\j<=1000000/\i.natAbs<1000000 then vI (i ^ j.toNat) else none
 |_,_=>none
noncomputable def eu:Dat->Option RV
 |.int i=>vI (-i)
 |_=>none
noncomputable def atI(xs:List Dat)(i:Int):Option Dat:=(ixN xs.length i).bind fun j=>xs[j]?
noncomputable def gIx:Dat->Dat->Option RV
 |.lst xs,.int i=>(atI xs i).map .val
 |.tup xs,.int i=>(atI xs i).map .val
 |_,_=>none
noncomputable def inD(x:Dat)(xs:List Dat):Bool:=xs.any fun y=>eqD y x
noncomputable def gIn:Dat->Dat->Option RV
 |x,.lst xs=>if okD 8 x&&xs.all (okD 7) then vB (inD x xs) else none
 |x,.tup xs=>if okD 8 x&&xs.all (okD 7) then vB (inD x xs) else none
 |_,_=>none
noncomputable def uW:Dat->Dat->Option RV
 |x,.lst xs=>if okD 8 x&&xs.all (okD 7) then vB (!inD x xs) else none
 |x,.tup xs=>if okD 8 x&&xs.all (okD 7) then vB (!inD x xs) else none
 |_,_=>none
noncomputable def sIx(n d:Nat):Option Int->Nat
 |none=>d
 |some v=>(if v<0 then max (v+n) 0 else min v n).toNat
noncomputable def cut(xs:List Dat)(lo hi:Option Int):List Dat:=(xs.drop (sIx xs.length 0 lo)).take (sIx xs.length xs.length hi-sIx xs.length 0 lo)
noncomputable def ck:List Dat->Option RV
 |[.lst xs]=>vI xs.length
 |[.tup xs]=>vI xs.length
 |_=>none
noncomputable def b4:List Dat->Option RV
 |[.int i,.int j]=>vI (if j<i then j else i)
 |_=>none
noncomputable def cu:List Dat->Option RV
 |[.int i,.int j]=>vI (if j>i then j else i)
 |_=>none
noncomputable def cA:List Dat->Option RV
 |[.lst xs]=>some (.new (.lst xs))
 |[.tup xs]=>some (.new (.lst xs))
 |_=>none
noncomputable def bE:List Dat->Option RV
 |[.lst xs]=>some (.val (.tup xs))
 |[.tup xs]=>some (.val (.tup xs))
 |_=>none
noncomputable def isI:Dat->Bool
 |.int _=>true
 |.bl _=>true
 |_=>false
noncomputable def isB:Dat->Bool
 |.bl _=>true
 |_=>false
noncomputable def isL:Dat->Bool
 |.lst _=>true
 |_=>false
noncomputable def isT:Dat->Bool
 |.tup _=>true
 |_=>false
noncomputable def bools:List Dat->Option (List Bool)
 |[]=>some []
 |.bl b::r=>(bools r).map fun bs=>b::bs
 |_=>none
noncomputable def zH:List Dat->Option RV
 | [.lst xs]=>(match bools xs with
  |some bs=>vB (bs.all id)
  |none=>none)
 |_=>none
noncomputable def bH(g h:Dat->Dat->Option RV)(a b c:FE):FE:=fun ρ=>match a ρ with
 |none=>none
 |some (x,ρ1)=>match b ρ1 with
  |none=>none
  |some (y,ρ2)=>match pk ρ2 x with
   |none=>none
   |some d=>match pk ρ2 y with
    |none=>none
    |some e=>match g d e with
     | some (.val (.bl true))=>(match c ρ2 with
      |none=>none
      |some (z,ρ3)=>match pk ρ3 y with
       |none=>none
       |some e'=>match pk ρ3 z with
        |none=>none
        |some f=>match h e' f with
         |none=>none
         |some v=>some (v.bI,ρ3))
     |some (.val (.bl false))=>some (.val (.bl false),ρ2)
     |_=>none
noncomputable def part:Option FE->Env->Option (Option Int×Env)
 |none,ρ=>some (none,ρ)
 |some f,ρ=>match f ρ with
  |some (.val (.int i),ρ1)=>some (some i,ρ1)
  |_=>none
noncomputable def eSl(a:FE)(lo hi:Option FE):FE:=fun ρ=>match a ρ with
 |none=>none
 |some (x,ρ1)=>match part lo ρ1 with
  |none=>none
  |some (l,ρ2)=>match part hi ρ2 with
   |none=>none
   |some (h,ρ3)=>match pk ρ3 x with
    |some (.lst xs)=>some (.new (.lst (cut xs l h)),ρ3)
    |_=>none
noncomputable def cG:List Dat->Option RV
 |[.int a,.int b,.int c]=>vI (if b<a then (if c<b then c else b) else (if c<a then c else a))
 |_=>none
noncomputable def bits(x:Int):Int:=if x=0 then 0 else ((x.natAbs.log2+1:Nat):Int)
noncomputable def bX:Dat->Option RV
 |.int i=>vI (bits i)
 |_=>none
noncomputable def gk:Dat->Option RV
 |.lst xs=>some (.new (.lst xs.reverse))
 |_=>none
end Dm
open Dm(Dat FE RV FT FS)
namespace Br
open PySem L2
noncomputable def kP(p:Int×Int):List Key:=[Wo p.1,Wo p.2]
def uX(H:Hp):List Addr->List (Int×Int)->Prop
 |[],[]=>True
 |t::ts,p::ks=>H t=some (.tup [V.int p.1,V.int p.2])/\uX H ts ks
 |_,_=>False
theorem uX.mono{H H':Hp}(s:bg H H'):∀{ts:List Addr} {ks:List (Int×Int)},uX H ts ks->uX H' ts ks
 |[],[],_=>trivial
 |_::_,_::_,h=>⟨s _ _ h.1,uX.mono s h.2⟩
 |[],_::_,h=>h
 |_::_,[],h=>h
def HL(H:Hp)(x:List (List Key×V)×List Addr)(ks:List (Int×Int)):Prop:=x.1.map (·.1)=ks.map kP/\uX H x.2 ks
theorem HL.mono{H H':Hp}(s:bg H H'){x:List (List Key×V)×List Addr}{ks:List (Int×Int)}(h:HL H x ks):HL H' x ks:=⟨h.1,h.2.mono s⟩
mutual
inductive Rep(H:Hp):V->Dat->Prop
 |non:Rep H V.non Dat.non
 |bl (b:Bool):Rep H (V.bl b) (Dat.bl b)
 |int (i:Int):Rep H (V.int i) (Dat.int i)
 |str (s:List Nat):Rep H (V.str ⟨s.toArray⟩) (Dat.str s)
 |tup {a:Addr} {xs:List V} {ds:List Dat}:H a=some (.tup xs)->bz H xs ds->Rep H (V.ref a) (Dat.tup ds)
 |lst {a:Addr} {xs:List V} {ds:List Dat}:Rd H a (.lst xs)->bz H xs ds->Rep H (V.ref a) (Dat.lst ds)
 |dct {a:Addr} {kvs:List (Key×V)} {ks:List Int} {ds:List Dat}:H a=some (.dK kvs)->kvs.map (·.1)=ks.map Wo->bz H (kvs.map (·.2)) ds->Rep H (V.ref a) (Dat.dct ks ds)
 |dcp {a:Addr} {x:List (List Key×V)×List Addr} {ks:List (Int×Int)} {ds:List Dat}:H a=some (.dT x.1 x.2)->HL H x ks->bz H (x.1.map (·.2)) ds->Rep H (V.ref a) (Dat.dcp ks ds)
 |exc {a:Addr} {C:Nat}:H a=some (.ext fun h=>∃o,h.get? a=some o/\o.cls=.ref C)->Rep H (V.ref a) (Dat.exc C)
 |cz {a d:Addr} {C:Nat} {v:Int}:H a=some (.ext fun h=>∃o,h.get? a=some o/\o.cls=.ref C/\o.dict=some d/\∀c,o.data≠.cls c)->H d=some (.xd [("moment",.int v)])->Rep H (V.ref a) (Dat.cz C v)
 |fn (a:Addr):Rep H (V.ref a) (Dat.fn a)
inductive bz(H:Hp):List V->List Dat->Prop
 |nil:bz H [] []
 |cons {v:V} {d:Dat} {vs:List V} {ds:List Dat}:Rep H v d->bz H vs ds->bz H (v::vs) (d::ds)
end
theorem bg.rd{H H':Hp}(s:bg H H'){a:Addr}{u:HO}(h:Rd H a u):Rd H' a u:=by
 rcases h with h | ⟨o,h⟩
 ·exact .inl (s _ _ h)
 ·exact .inr ⟨o,s _ _ h⟩
mutual
theorem Rep.mono{H H':Hp}(s:bg H H'):∀{v:V} {d:Dat},Rep H v d->Rep H' v d
 |_,_,.non=>.non
 |_,_,.bl b=>.bl b
 |_,_,.int i=>.int i
 |_,_,.str x=>.str x
 |_,_,.tup h r=>.tup (s _ _ h) (bz.mono s r)
 |_,_,.lst h r=>.lst (bg.rd s h) (bz.mono s r)
 |_,_,.dct h e r=>.dct (s _ _ h) e (bz.mono s r)
 |_,_,.dcp h e r=>.dcp (s _ _ h) (e.mono s) (bz.mono s r)
 |_,_,.exc h=>.exc (s _ _ h)
 |_,_,.cz h k=>.cz (s _ _ h) (s _ _ k)
 |_,_,.fn a=>.fn a
theorem bz.mono{H H':Hp}(s:bg H H'):∀{vs:List V} {ds:List Dat},bz H vs ds->bz H' vs ds
 |_,_,.nil=>.nil
 |_,_,.cons h r=>.cons (Rep.mono s h) (bz.mono s r)
end
section
variable{ρ:Dm.Env}{H0 H:Hp}{σ:St}{d:Dat}{a:Addr}{x:Dm.Val}{v:V}{X:Cx}{t t':TS}{p:Addr}{e:Expr}{o:HO}
theorem bz.length{H:Hp}:∀{vs:List V} {ds:List Dat},bz H vs ds->vs.length=ds.length
 |_,_,.nil=>rfl
 |_,_,.cons _ r=>by simp[bz.length r]
theorem bz.get{H:Hp}:∀{vs:List V} {ds:List Dat} {i:Nat} {d:Dat},bz H vs ds->ds[i]?=some d->∃v,vs[i]?=some v/\Rep H v d
 |_,_,_,_,.nil,e=>by simp at e
 |_,_,0,_,.cons h _,e=>by simp at e;subst e;exact⟨_,rfl,h⟩
 |_,_,i+1,_,.cons _ r,e=>by obtain⟨v,h1,h2⟩:=bz.get (i:=i) r (by simpa using e);exact⟨v,by simpa using h1,h2⟩
theorem bz.append{H:Hp}:∀{vs ws:List V} {ds es:List Dat},bz H vs ds->bz H ws es->bz H (vs++ws) (ds++es)
 |_,_,_,_,.nil,s=>s
 |_,_,_,_,.cons h r,s=>.cons h (bz.append r s)
theorem bz.take{H:Hp}:∀{vs:List V} {ds:List Dat} (n:Nat),bz H vs ds->bz H (vs.take n) (ds.take n)
 |_,_,0,_=>by simpa using bz.nil
 |_,_,_+1,.nil=>by simpa using bz.nil
 |_,_,n+1,.cons h r=>by simpa using bz.cons h (bz.take n r)
theorem bz.drop{H:Hp}:∀{vs:List V} {ds:List Dat} (n:Nat),bz H vs ds->bz H (vs.drop n) (ds.drop n)
 |_,_,0,r=>by simpa using r
 |_,_,_+1,.nil=>by simpa using bz.nil
 |_,_,n+1,.cons _ r=>by simpa using bz.drop n r
theorem bz.reverse{H:Hp}:∀{vs:List V} {ds:List Dat},bz H vs ds->bz H vs.reverse ds.reverse
 |_,_,.nil=>.nil
 |_,_,.cons h r=>by rw[W4,W4];exact bz.append (bz.reverse r) (.cons h .nil)
theorem bz.rep{H:Hp}{vs:List V}{ds:List Dat}(r:bz H vs ds):∀k:Nat,bz H (fj k vs).flatten (fj k ds).flatten
 |0=>by simpa using bz.nil
 |k+1=>by rw[VJ,VJ,V4,V4];exact bz.append r (bz.rep r k)
def Own(H0 H:Hp)(a:Addr):Dat->Prop
 |.lst ds=>∃xs,H a=some (.lst xs)/\bz H0 xs ds
 |.dct ks ds=>∃kvs:List (Key×V),H a=some (.dK kvs)/\kvs.map (·.1)=ks.map Wo/\bz H0 (kvs.map (·.2)) ds
 |.dcp ks ds=>∃x:List (List Key×V)×List Addr,H a=some (.dT x.1 x.2)/\HL H0 x ks/\bz H0 (x.1.map (·.2)) ds
 |_=>False
theorem Own.some(h:Own H0 H a d):∃o,H a=some o:=by
 cases d with
 |lst ds=>obtain⟨xs,e,_⟩:=h;exact⟨_,e⟩
 |dct ks ds=>obtain⟨xs,e,_⟩:=h;exact⟨_,e⟩
 |dcp ks ds=>obtain⟨xs,e,_⟩:=h;exact⟨_,e⟩
 |_=>exact UH h
theorem Own.mono{H0 H H0' H':Hp}(h:Own H0 H a d)(s:bg H0 H0')(e:H' a=H a):Own H0' H' a d:=by
 cases d with
 |lst ds=>obtain⟨xs,q,r⟩:=h;exact⟨xs,by rw[e];exact q,r.mono s⟩
 |dct ks ds=>obtain⟨xs,q,k,r⟩:=h;exact⟨xs,by rw[e];exact q,k,r.mono s⟩
 |dcp ks ds=>obtain⟨xs,q,k,r⟩:=h;exact⟨xs,by rw[e];exact q,k.mono s,r.mono s⟩
 |_=>exact UH h
def xZ(H0 H:Hp)(v:V)(d:Dat):Prop:=Rep H0 v d\/∃a,v=V.ref a/\Own H0 H a d
inductive BI(H0 H:Hp):List V->List Dat->Prop
 |nil:BI H0 H [] []
 |cons {v:V} {d:Dat} {vs:List V} {ds:List Dat}:xZ H0 H v d->BI H0 H vs ds->BI H0 H (v::vs) (d::ds)
noncomputable def shr(H0 H:Hp)(a:Addr):Hp:=fun b=>if b=a then H a else H0 b
theorem ki:shr H0 H a a=H a:=by unfold shr;rw[if_pos rfl]
theorem qN{a b:Addr}(h:b≠a):shr H0 H a b=H0 b:=by unfold shr;rw[if_neg h]
theorem l0(h:H0 a=none):bg H0 (shr H0 H a):=fun b o e=>by
 by_cases q:b=a
 ·subst q;rw[h]at e;cases e
 ·rw[qN q];exact e
theorem Ey(s:bg H0 H):bg (shr H0 H a) H:=fun b o e=>by
 by_cases q:b=a
 ·subst q;rw[ki]at e;exact e
 ·rw[qN q]at e;exact s _ _ e
theorem Own.rep(h:Own H0 H a d)(n:H0 a=none):Rep (shr H0 H a) (V.ref a) d:=by
 cases d with
 |lst ds=>obtain⟨xs,q,r⟩:=h;exact .lst (.inl (by rw[ki];exact q)) (r.mono (l0 n))
 |dct ks ds=>obtain⟨xs,q,k,r⟩:=h;exact .dct (by rw[ki];exact q) k (r.mono (l0 n))
 |dcp ks ds=>obtain⟨xs,q,k,r⟩:=h;exact .dcp (by rw[ki];exact q) (k.mono (l0 n)) (r.mono (l0 n))
 |_=>exact UH h
def aV(σ:St)(ρ:Dm.Env)(a:Addr):Prop:=∃(i:Nat) (d:Dat),ρ[i]?=some (Dm.Cell.ow d)/\σ[i]?=some (some (V.ref a))
noncomputable abbrev Def(_:Dm.Env)(_:Nat):Prop:=True
structure aW(H0 H:Hp)(σ:St)(ρ:Dm.Env):Prop where
 same:bg H0 H
 len:σ.length=ρ.length
 sh:∀(i:Nat) (d:Dat),ρ[i]?=some (Dm.Cell.sh d)->∃v,σ[i]?=some (some v)/\Rep H0 v d
 ow:∀(i:Nat) (d:Dat),ρ[i]?=some (Dm.Cell.ow d)->∃a,σ[i]?=some (some (V.ref a))/\H0 a=none/\Own H0 H a d
 dis:∀(i j:Nat) (d e:Dat) (a:Addr),ρ[i]?=some (Dm.Cell.ow d)->ρ[j]?=some (Dm.Cell.ow e)->σ[i]?=some (some (V.ref a))->σ[j]?=some (some (V.ref a))->i=j
structure Stp(O:Addr->Prop)(H0 H H0' H':Hp):Prop where
 s0:bg H0 H0'
 s1:∀a o,H a=some o->¬O a->H' a=some o
 s2:∀a o,H0' a=some o->H a=none\/H0 a=some o\/O a
 s3:∀a o,H a=some o->∃o',H' a=some o'
theorem Stp.refl(O:Addr->Prop)(H0 H:Hp):Stp O H0 H H0 H:=⟨bg.refl _,fun _ _ e _=>e,fun _ _ e=>.inr (.inl e),fun _ o e=>⟨o,e⟩⟩
theorem Stp.gone{O:Addr->Prop}{H0 H H0' H':Hp}(t:Stp O H0 H H0' H')(h:H' a=none):H a=none:=by
 cases q:H a with
 |none=>rfl
 |some o=>obtain⟨o',e⟩:=t.s3 a o q;rw[h]at e;cases e
theorem Stp.trans{O1 O2:Addr->Prop}{H0 H H1 H' H2 H'':Hp}(t:Stp O1 H0 H H1 H')(u:Stp O2 H1 H' H2 H'')(k:∀a,O2 a->O1 a\/H a=none):Stp O1 H0 H H2 H'' where
 s0:=t.s0.trans u.s0
 s1:=fun a o e n=>u.s1 a o (t.s1 a o e n) fun z=>(k a z).elim n fun q=>by rw[q]at e;cases e
 s2:=fun a o e=>by
  rcases u.s2 a o e with q | q | q
  ·exact .inl (t.gone q)
  ·exact t.s2 a o q
  ·rcases k a q with z | z
   ·exact .inr (.inr z)
   ·exact .inl z
 s3:=fun a o e=>by obtain⟨o',e'⟩:=t.s3 a o e;exact u.s3 a o' e'
theorem Stp.wide{O O':Addr->Prop}{H0 H H0' H':Hp}(t:Stp O H0 H H0' H')(k:∀a,O a->O' a):Stp O' H0 H H0' H':=
 ⟨t.s0,fun a o e n=>t.s1 a o e fun z=>n (k a z),fun a o e=>(t.s2 a o e).imp id (Or.imp id (k a)),t.s3⟩
structure bA(H0 H H0' H':Hp):Prop where
 s0:bg H0 H0'
 s1:bg H H'
 s2:∀a o,H0' a=some o->H a=none\/H0 a=some o
 s3:bg H0' H'
theorem bA.refl(s:bg H0 H):bA H0 H H0 H:=⟨bg.refl _,bg.refl _,fun _ _ e=>.inr e,s⟩
theorem bA.stp{H0 H H0' H':Hp}(g:bA H0 H H0' H')(O:Addr->Prop):Stp O H0 H H0' H':=
 ⟨g.s0,fun a o e _=>g.s1 a o e,fun a o e=>(g.s2 a o e).imp id .inl,fun a o e=>⟨o,g.s1 a o e⟩⟩
theorem bA.trans{H0 H H1 H' H2 H'':Hp}(t:bA H0 H H1 H')(u:bA H1 H' H2 H''):bA H0 H H2 H'' where
 s0:=t.s0.trans u.s0
 s1:=t.s1.trans u.s1
 s2:=fun a o e=>by
  rcases u.s2 a o e with q | q
  ·exact .inl (t.s1.free q)
  ·exact t.s2 a o q
 s3:=u.s3
theorem bA.BJ(s:bg H0 H)(n:H p=none):bA H0 H (upd H0 p o) (upd H p o) where
 s0:=fun b u e=>by rw[aJ (bQ e (s.free n))];exact e
 s1:=fun b u e=>by rw[aJ (bQ e n)];exact e
 s2:=fun b u e=>by
  by_cases q:b=p
  ·subst q;exact .inl n
  ·rw[aJ q]at e;exact .inr e
 s3:=fun b u e=>by
  by_cases q:b=p
  ·subst q;rw[aL]at e ⊢;exact e
  ·rw[aJ q]at e ⊢;exact s _ _ e
theorem bA.zI(s:bg H0 H)(n:H p=none):bA H0 H H0 (upd H p o) where
 s0:=bg.refl _
 s1:=fun b u e=>by rw[aJ (bQ e n)];exact e
 s2:=fun b u e=>.inr e
 s3:=fun b u e=>by rw[aJ (bQ (s _ _ e) n)];exact s _ _ e
def qx(Hs H0 H:Hp)(σ:St)(ρ:Dm.Env)(v:V):Dm.Val->Prop
 |.val d=>Rep H0 v d
 |.slot i=>σ[i]?=some (some v)/\Def ρ i
 |.new d=>∃a,v=V.ref a/\Hs a=none/\¬aV σ ρ a/\H0 a=none/\Own H0 H a d
structure ESt(σ:St)(ρ:Dm.Env)(H0 H:Hp)(ρ':Dm.Env)(H0' H':Hp):Prop where
 st:aW H0' H' σ ρ'
 stp:Stp (aV σ ρ) H0 H H0' H'
 own:∀a,aV σ ρ' a->aV σ ρ a
 dfn:∀i,Def ρ i->Def ρ' i
theorem ESt.refl(st:aW H0 H σ ρ):ESt σ ρ H0 H ρ H0 H:=⟨st,Stp.refl _ _ _,fun _ z=>z,fun _ z=>z⟩
theorem ESt.trans{ρ ρ1 ρ2:Dm.Env}{H0 H H1 H' H2 H'':Hp}(t:ESt σ ρ H0 H ρ1 H1 H')(u:ESt σ ρ1 H1 H' ρ2 H2 H''):ESt σ ρ H0 H ρ2 H2 H'':=
 ⟨u.st,t.stp.trans u.stp fun a z=>.inl (t.own a z),fun a z=>t.own a (u.own a z),fun i z=>u.dfn i (t.dfn i z)⟩
theorem aW.grow{H0 H H0' H':Hp}(st:aW H0 H σ ρ)(g:bA H0 H H0' H'):aW H0' H' σ ρ where
 same:=g.s3
 len:=st.len
 sh:=fun i d e=>by obtain⟨v,q,r⟩:=st.sh i d e;exact⟨v,q,r.mono g.s0⟩
 ow:=fun i d e=>by
  obtain⟨a,q,n,w⟩:=st.ow i d e;obtain⟨o,z⟩:=w.some;refine⟨a,q,?_,w.mono g.s0 ((g.s1 a o z).trans z.symm)⟩;cases y:H0' a with
  |none=>rfl
  |some u=>
   rcases g.s2 a u y with k | k
   ·rw[z]at k;cases k
   ·rw[n]at k;cases k
 dis:=st.dis
theorem ESt.grow{H0 H H0' H':Hp}(st:aW H0 H σ ρ)(g:bA H0 H H0' H'):ESt σ ρ H0 H ρ H0' H':=
 ⟨st.grow g,g.stp _,fun _ z=>z,fun _ z=>z⟩
theorem qx.mono{Hs H0 H H0' H':Hp}{ρ ρ':Dm.Env}(r:qx Hs H0 H σ ρ v x)(t:ESt σ ρ H0 H ρ' H0' H'):qx Hs H0' H' σ ρ' v x:=by
 cases x with
 |val d=>exact Rep.mono t.stp.s0 r
 |slot i=>exact⟨r.1,t.dfn i r.2⟩
 |new d=>
  obtain⟨a,e,n,no,n0,w⟩:=r;obtain⟨o,z⟩:=w.some;refine⟨a,e,n,fun y=>no (t.own a y),?_,w.mono t.stp.s0 ((t.stp.s1 a o z no).trans z.symm)⟩;cases y:H0' a with
  |none=>rfl
  |some u=>
   rcases t.stp.s2 a u y with k | k | k
   ·rw[z]at k;cases k
   ·rw[n0]at k;cases k
   ·exact absurd k no
theorem qx.early{Hs Hs' H0 H:Hp}(r:qx Hs H0 H σ ρ v x)(k:∀a,Hs a=none->Hs' a=none):qx Hs' H0 H σ ρ v x:=by
 cases x with
 |val d=>exact r
 |slot i=>exact r
 |new d=>obtain⟨a,e,n,z⟩:=r;exact⟨a,e,k a n,z⟩
theorem qx.look{Hs H0 H:Hp}(r:qx Hs H0 H σ ρ v x)(st:aW H0 H σ ρ)(e:Dm.pk ρ x=some d):xZ H0 H v d:=by
 cases x with
 |val d'=>cases e;exact .inl r
 |new d'=>cases e;obtain⟨a,e,_,_,_,w⟩:=r;exact .inr ⟨a,e,w⟩
 |slot i=>
  obtain⟨q,_⟩:=r;unfold Dm.pk at e;dsimp only at e;split at e
  ·rename_i d' h;cases e;obtain⟨a,z,_,w⟩:=st.ow i d h;rw[q]at z;cases z;exact .inr ⟨a,rfl,w⟩
  ·rename_i d' h;cases e;obtain⟨u,z,w⟩:=st.sh i d h;rw[q]at z;cases z;exact .inl w
  ·cases e
def FQ(Hs H0 H:Hp)(v:V):RV->Prop
 |.val d=>Rep H0 v d
 |.new d=>∃a,v=V.ref a/\Hs a=none/\H0 a=none/\Own H0 H a d
theorem FQ.toV{H H0' H' H0:Hp}{z:RV}(r:FQ H H0' H' v z)(st:aW H0 H σ ρ):qx H H0' H' σ ρ v z.bI:=by
 cases z with
 |val d=>exact r
 |new d=>obtain⟨a,e,n,n0,w⟩:=r;refine⟨a,e,n,fun⟨i,d',h1,h2⟩=>?_,n0,w⟩;obtain⟨a',q,_,w'⟩:=st.ow i d' h1;rw[h2]at q;cases q;obtain⟨o,z⟩:=w'.some;rw[n]at z;cases z
def tD(f:FE):TE:=fun σ H Q=>∃H0 ρ x ρ',aW H0 H σ ρ/\f ρ=some (x,ρ')/\∀v H0' H',ESt σ ρ H0 H ρ' H0' H'->qx H H0' H' σ ρ' v x->Q v H'
def tDT(f:FT):TT:=fun σ H Q=>∃H0 ρ b ρ',aW H0 H σ ρ/\f ρ=some (b,ρ')/\∀H0' H',ESt σ ρ H0 H ρ' H0' H'->Q b H'
inductive kW(Hs H0 H:Hp)(σ:St)(ρ:Dm.Env):List V->List Dm.Val->Prop
 |nil:kW Hs H0 H σ ρ [] []
 |cons {v:V} {x:Dm.Val} {vs:List V} {xs:List Dm.Val}:qx Hs H0 H σ ρ v x->kW Hs H0 H σ ρ vs xs->kW Hs H0 H σ ρ (v::vs) (x::xs)
def tDA(fs:List FE):TA:=fun σ H Q=>∃H0 ρ xs ρ',aW H0 H σ ρ/\Dm.eAs fs ρ=some (xs,ρ')/\∀vs H0' H',ESt σ ρ H0 H ρ' H0' H'->kW H H0' H' σ ρ' vs xs->Q vs H'
noncomputable abbrev DE(X:Cx)(e:Expr)(f:FE):Prop:=PE X e (tD f)
noncomputable abbrev DT(X:Cx)(e:Expr)(f:FT):Prop:=PT X e (tDT f)
noncomputable abbrev DA(X:Cx)(es:List Expr)(fs:List FE):Prop:=PA X es (tDA fs)
theorem PE.weak{t t':TE}(h:PE X e t)(k:∀σ H Q,t' σ H Q->t σ H Q):PE X e t':=fun Ju s σ H Q I q=>h Ju s σ H Q I (k σ H Q q)
theorem PT.weak{t t':TT}(h:PT X e t)(k:∀σ H Q,t' σ H Q->t σ H Q):PT X e t':=fun Ju s σ H Q I q=>h Ju s σ H Q I (k σ H Q q)
theorem PA.weak{es:List Expr}{t t':TA}(h:PA X es t)(k:∀σ H Q,t' σ H Q->t σ H Q):PA X es t':=fun pos Ju s σ H Q I q=>h pos Ju s σ H Q I (k σ H Q q)
theorem PS.weak{st:Stmt}(h:PS X st t)(k:∀D σ H,t' D σ H->t D σ H):PS X st t':=fun Ju s σ H D I q=>h Ju s σ H D I (k D σ H q)
theorem PSs.weak{st:List Stmt}(h:PSs X st t)(k:∀D σ H,t' D σ H->t D σ H):PSs X st t':=fun Ju s σ H D I q=>h Ju s σ H D I (k D σ H q)
theorem iZ(s:bg H0 H):bg H0 (shr H0 H a):=fun b o e=>by
 by_cases q:b=a
 ·subst q;rw[ki];exact s _ _ e
 ·rw[qN q];exact e
theorem Own.Qx{H0 H0c H:Hp}(h:Own H0 H a d)(b:bg H0 H0c)(s:bg H0c H):Rep (shr H0c H a) (V.ref a) d:=by
 cases d with
 |lst ds=>obtain⟨xs,q,r⟩:=h;exact .lst (.inl (by rw[ki];exact q)) (r.mono (b.trans (iZ s)))
 |dct ks ds=>obtain⟨xs,q,k,r⟩:=h;exact .dct (by rw[ki];exact q) k (r.mono (b.trans (iZ s)))
 |dcp ks ds=>obtain⟨xs,q,k,r⟩:=h;exact .dcp (by rw[ki];exact q) (k.mono (b.trans (iZ s))) (r.mono (b.trans (iZ s)))
 |_=>exact UH h
theorem qx.rho{Hs H0 H:Hp}{ρ ρ':Dm.Env}(r:qx Hs H0 H σ ρ v x)(o:∀a,aV σ ρ' a->aV σ ρ a)(d:∀i,Def ρ i->Def ρ' i):qx Hs H0 H σ ρ' v x:=by
 cases x with
 |val d=>exact r
 |slot i=>exact⟨r.1,d i r.2⟩
 |new d=>obtain⟨a,e,n,no,z⟩:=r;exact⟨a,e,n,fun y=>no (o a y),z⟩
theorem kW.rho{Hs H0 H:Hp}{ρ ρ':Dm.Env}(o:∀a,aV σ ρ' a->aV σ ρ a)(d:∀i,Def ρ i->Def ρ' i):∀{vs:List V} {xs:List Dm.Val},kW Hs H0 H σ ρ vs xs->kW Hs H0 H σ ρ' vs xs
 |_,_,.nil=>.nil
 |_,_,.cons h r=>.cons (h.rho o d) (kW.rho o d r)
theorem kW.early{Hs Hs' H0 H:Hp}(k:∀a,Hs a=none->Hs' a=none):∀{vs:List V} {xs:List Dm.Val},kW Hs H0 H σ ρ vs xs->kW Hs' H0 H σ ρ vs xs
 |_,_,.nil=>.nil
 |_,_,.cons h r=>.cons (h.early k) (kW.early k r)
theorem cB{i j:Nat}{c d:Dm.Cell}(h:(ρ.set i c)[j]?=some d):(j=i/\d=c)\/(j≠i/\ρ[j]?=some d):=by
 by_cases e:j=i
 ·subst e;by_cases l:j<ρ.length
  ·rw[U1 l]at h;exact .inl ⟨rfl,(Option.some.inj h).symm⟩
  ·rw[Vg (by simpa using Wm.mp l)]at h;cases h
 ·rw[gV (Vl e)]at h;exact .inr ⟨e,h⟩
theorem De{i:Nat}(st:aW H0 H σ ρ)(e:ρ[i]?=some (.ow d))(q:σ[i]?=some (some (V.ref a))) :
  aW (shr H0 H a) H σ (ρ.set i (.sh d))/\(∀b,aV σ (ρ.set i (.sh d)) b->aV σ ρ b)/\∀j,Def ρ j->Def (ρ.set i (.sh d)) j:=by
 obtain⟨a',q',n,w⟩:=st.ow i d e;rw[q]at q';cases q';have hil:i<ρ.length:=(UT.mp e).1;refine⟨⟨Ey st.same,by rw[Vv];exact st.len,fun j d' h=>?_,fun j d' h=>?_,fun j k d1 d2 b h1 h2 h3 h4=>?_⟩,fun b ⟨j,d',h1,h2⟩=>?_,fun j h=>?_⟩
 ·rcases cB h with⟨rfl,z⟩ | ⟨_,h⟩
  ·cases z;exact⟨_,q,w.rep n⟩
  ·obtain⟨v,z,r⟩:=st.sh j d' h;exact⟨v,z,r.mono (l0 n)⟩
 ·rcases cB h with⟨_,z⟩ | ⟨hj,h⟩
  ·cases z
  ·obtain⟨b,z,n',w'⟩:=st.ow j d' h;have nb:b≠a:=fun y=>hj (st.dis j i d' d a h e (y▸z) q);exact⟨b,z,by rw[qN nb];exact n',w'.mono (l0 n) rfl⟩
 ·rcases cB h1 with⟨_,z⟩ | ⟨_,h1⟩
  ·cases z
  ·rcases cB h2 with⟨_,z⟩ | ⟨_,h2⟩
   ·cases z
   ·exact st.dis j k d1 d2 b h1 h2 h3 h4
 ·rcases cB h1 with⟨_,z⟩ | ⟨_,h1⟩
  ·cases z
  ·exact⟨j,d',h1,h2⟩
 ·trivial
theorem FU(st:aW H0 H σ ρ)(no:¬aV σ ρ a):aW (shr H0 H a) H σ ρ where
 same:=Ey st.same
 len:=st.len
 sh:=fun j d h=>by obtain⟨v,z,r⟩:=st.sh j d h;exact⟨v,z,r.mono (iZ st.same)⟩
 ow:=fun j d h=>by obtain⟨b,z,n',w'⟩:=st.ow j d h;have nb:b≠a:=fun y=>no ⟨j,d,h,y▸z⟩;exact⟨b,z,by rw[qN nb];exact n',w'.mono (iZ st.same) rfl⟩
 dis:=st.dis
theorem take1{Hs H0s H0 H0c H:Hp}{ρs ρ ρ':Dm.Env}(t:ESt σ ρs H0s Hs ρ H0c H)(b:bg H0 H0c)(r:qx Hs H0 H σ ρ v x)(e:Dm.tk ρ x=some (d,ρ')) :
  ∃Df,ESt σ ρs H0s Hs ρ' Df H/\bg H0c Df/\Rep Df v d/\(∀a,aV σ ρ' a->aV σ ρ a)/\∀i,Def ρ i->Def ρ' i:=by
 cases x with
 |val d'=>cases e;exact⟨H0c,t,bg.refl _,Rep.mono b r,fun _ z=>z,fun _ z=>z⟩
 |new d'=>
  cases e;obtain⟨a,e,n,no,n0,w⟩:=r;subst e;have ss:=iZ (a:=a) t.st.same;refine⟨shr H0c H a,⟨FU t.st no,⟨t.stp.s0.trans ss,t.stp.s1,fun c o q=>?_,t.stp.s3⟩,t.own,t.dfn⟩,ss,w.Qx b t.st.same,fun _ z=>z,fun _ z=>z⟩;by_cases y:c=a
  ·subst y;exact .inl n
  ·rw[qN y]at q;exact t.stp.s2 c o q
 |slot i=>
  obtain⟨q,_⟩:=r;unfold Dm.tk at e;dsimp only at e;split at e
  ·rename_i d' h;cases e;obtain⟨a,z,n,w⟩:=t.st.ow i _ h;rw[q]at z;cases z;obtain⟨s1,s2,s3⟩:=De t.st h q;have ss:=iZ (a:=a) t.st.same;refine⟨shr H0c H a,⟨s1,⟨t.stp.s0.trans ss,t.stp.s1,fun c o q'=>?_,t.stp.s3⟩,fun b z=>t.own b (s2 b z),fun j z=>s3 j (t.dfn j z)⟩,ss,w.Qx (bg.refl _) t.st.same,s2,s3⟩;by_cases y:c=a
   ·subst y;exact .inr (.inr (t.own c ⟨i,_,h,q⟩))
   ·rw[qN y]at q';exact t.stp.s2 c o q'
  ·rename_i d' h;cases e;obtain⟨u,z,w⟩:=t.st.sh i _ h;rw[q]at z;cases z;exact⟨H0c,t,bg.refl _,w,fun _ z=>z,fun _ z=>z⟩
  ·cases e
theorem takes{Hs H0s H0 H:Hp}{ρs:Dm.Env}:∀{xs:List Dm.Val} {vs:List V} {ρ ρ':Dm.Env} {ds:List Dat} {H0c:Hp},ESt σ ρs H0s Hs ρ H0c H->bg H0 H0c->kW Hs H0 H σ ρ vs xs->Dm.tks ρ xs=some (ds,ρ') ->
  ∃Df,ESt σ ρs H0s Hs ρ' Df H/\bg H0c Df/\bz Df vs ds
 |[],_,ρ,ρ',ds,H0c,t,b,r,e=>by cases r;cases e;exact⟨H0c,t,bg.refl _,.nil⟩
 |x::xs,_,ρ,ρ',ds,H0c,t,b,r,e=>by
  cases r with
  |cons h r=>
   unfold Dm.tks at e;split at e
   ·cases e
   ·rename_i d ρ1 e1;split at e
    ·cases e
    ·rename_i ds' ρ2 e2;cases e;obtain⟨H1,t1,b1,r1,o1,d1⟩:=take1 t b h e1;obtain⟨H2,t2,b2,r2⟩:=takes t1 (b.trans b1) (r.rho o1 d1) e2;exact⟨H2,t2,b1.trans b2,.cons (r1.mono b2) r2⟩
theorem Qy{ρ ρ':Dm.Env}(e:Dm.tk ρ x=some (d,ρ'))(y:Dm.Val):Dm.pk ρ' y=Dm.pk ρ y:=by
 cases x with
 |val d'=>cases e;rfl
 |new d'=>cases e;rfl
 |slot i=>
  unfold Dm.tk at e;dsimp only at e;split at e
  ·rename_i d' h;cases e;cases y with
   |val _=>rfl
   |new _=>rfl
   |slot j=>
    unfold Dm.pk;dsimp only;by_cases z:j=i
    ·subst z;rw[U1 (UT.mp h).1,h]
    ·rw[gV (Vl z)]
  ·cases e;rfl
  ·cases e
theorem HM(e:Dm.pk ρ x=some d):∃ρ',Dm.tk ρ x=some (d,ρ'):=by
 cases x with
 |val d'=>cases e;exact⟨ρ,rfl⟩
 |new d'=>cases e;exact⟨ρ,rfl⟩
 |slot i=>
  unfold Dm.pk at e;dsimp only at e;unfold Dm.tk;dsimp only;split at e
  ·rename_i d' h;cases e;exact⟨_,rfl⟩
  ·rename_i d' h;cases e;exact⟨_,rfl⟩
  ·cases e
theorem mG:∀{xs:List Dm.Val} {ρ:Dm.Env} {ds:List Dat},Dm.pks ρ xs=some ds->∃ρ',Dm.tks ρ xs=some (ds,ρ')
 |[],ρ,ds,e=>by cases e;exact⟨ρ,rfl⟩
 |x::xs,ρ,ds,e=>by
  unfold Dm.pks at e;split at e
  ·cases e
  ·rename_i d e1;split at e
   ·cases e
   ·rename_i ds' e2;cases e;obtain⟨ρ1,h1⟩:=HM e1;have key:∀ys:List Dm.Val,Dm.pks ρ1 ys=Dm.pks ρ ys:=fun ys=>by
     induction ys with
     |nil=>rfl
     |cons y ys ih=>unfold Dm.pks;rw[Qy h1 y,ih]
    obtain⟨ρ2,h2⟩:=mG (xs:=xs) (ρ:=ρ1) (ds:=ds') (by rw[key];exact e2);exact⟨ρ2,by unfold Dm.tks;rw[h1];dsimp only;rw[h2]⟩
theorem looks{Hs H0 H:Hp}(st:aW H0 H σ ρ):∀{xs:List Dm.Val} {vs:List V} {ds:List Dat},kW Hs H0 H σ ρ vs xs->Dm.pks ρ xs=some ds->BI H0 H vs ds
 |[],_,ds,r,e=>by cases r;cases e;exact .nil
 |x::xs,_,ds,r,e=>by
  cases r with
  |cons h r=>
   unfold Dm.pks at e;split at e
   ·cases e
   ·rename_i d e1;split at e
    ·cases e
    ·rename_i ds' e2;cases e;exact .cons (h.look st e1) (looks st r e2)
def OpD(r:R2)(g:Dat->Dat->Option RV):Prop:=∀(H0 H:Hp) (x y:V) (dx dy:Dat) (z:RV) (Q:VK),bg H0 H->xZ H0 H x dx->xZ H0 H y dy->g dx dy=some z ->
 (∀v H0' H',bA H0 H H0' H'->FQ H H0' H' v z->Q v H')->r x y H Q
def UnD(r:V->Hp->VK->Prop)(g:Dat->Option RV):Prop:=∀(H0 H:Hp) (x:V) (dx:Dat) (z:RV) (Q:VK),bg H0 H->xZ H0 H x dx->g dx=some z ->
 (∀v H0' H',bA H0 H H0' H'->FQ H H0' H' v z->Q v H')->r x H Q
def CallD(r:List V->Hp->VK->Prop)(g:List Dat->Option RV):Prop:=∀(H0 H:Hp) (vs:List V) (ds:List Dat) (z:RV) (Q:VK),bg H0 H->BI H0 H vs ds->g ds=some z ->
 (∀v H0' H',bA H0 H H0' H'->FQ H H0' H' v z->Q v H')->r vs H Q
def spD(f:List Dat->Option RV):Sp:=fun vs H Q _=>∃H0 ds z,bg H0 H/\bz H0 vs ds/\f ds=some z/\∀v H0' H',bA H0 H H0' H'->FQ H H0' H' v z->Q v H'
end
section
variable{σ:St}{H:Hp}{Q:VK}
section
variable{fs:List FE}{d:Dat}{a b:FE}{t u:FT}{v:V}{H0:Hp}
theorem Qz{i:Nat}(h:tD (Dm.eV i) σ H Q):Bx i σ H Q:=by
 obtain⟨H0,ρ,x,ρ',st,e,k⟩:=h;unfold Dm.eV at e;split at e
 ·rename_i d h1;cases e;obtain⟨v,q,r⟩:=st.sh i d h1;exact⟨v,q,k v H0 H (.refl st) r⟩
 ·rename_i d h1;cases e;obtain⟨a,q,_⟩:=st.ow i d h1;exact⟨_,q,k _ H0 H (.refl st) ⟨q,trivial⟩⟩
 ·cases e
theorem tL(c:∀H0:Hp,Rep H0 v d)(h:tD (Dm.eC d) σ H Q):tC v σ H Q:=by obtain⟨H0,ρ,x,ρ',st,e,k⟩:=h;cases e;exact k v H0 H (.refl st) (c H0)
theorem KI{r:R2}{g:Dat->Dat->Option RV}{fa fb:FE}(o:OpD r g)(h:tD (Dm.e2 g fa fb) σ H Q):tOp r (tD fa) (tD fb) σ H Q:=by
 obtain⟨H0,ρ,x,ρ',st,e,k⟩:=h;unfold Dm.e2 at e;split at e
 ·cases e
 rename_i x1 ρ1 e1;split at e
 ·cases e
 rename_i y1 ρ2 e2;split at e
 ·cases e
 rename_i dx p1;split at e
 ·cases e
 rename_i dy p2;split at e
 ·cases e
 rename_i z gz;cases e;refine⟨H0,ρ,x1,ρ1,st,e1,fun v H1 Hb t1 r1=>⟨H1,ρ1,y1,_,t1.st,e2,fun u H2 Hc t2 r2=>?_⟩⟩;refine o H2 Hc v u dx dy z Q t2.st.same ((r1.mono t2).look t2.st p1) (r2.look t2.st p2) gz fun w H3 Hd g3 r3=>?_;exact k w H3 Hd (t1.trans (t2.trans (.grow t2.st g3))) ((r3.toV t2.st).early fun a n=>(t1.trans t2).stp.gone n)
theorem S3{r:V->Hp->VK->Prop}{g:Dat->Option RV}{fa:FE}(o:UnD r g)(h:tD (Dm.e1 g fa) σ H Q):tUn r (tD fa) σ H Q:=by
 obtain⟨H0,ρ,x,ρ',st,e,k⟩:=h;unfold Dm.e1 at e;split at e
 ·cases e
 rename_i x1 ρ1 e1;split at e
 ·cases e
 rename_i dx p1;split at e
 ·cases e
 rename_i z gz;cases e;refine⟨H0,ρ,x1,_,st,e1,fun v H1 Hb t1 r1=>?_⟩;refine o H1 Hb v dx z Q t1.st.same (r1.look t1.st p1) gz fun w H3 Hd g3 r3=>?_;exact k w H3 Hd (t1.trans (.grow t1.st g3)) ((r3.toV t1.st).early fun a n=>t1.stp.gone n)
theorem QA{Q:List V->Hp->Prop}(h:tDA [] σ H Q):C9 σ H Q:=by obtain⟨H0,ρ,xs,ρ',st,e,k⟩:=h;cases e;exact k [] H0 H (.refl st) .nil
theorem N_{f:FE}{Q:List V->Hp->Prop}(h:tDA (f::fs) σ H Q):qI (tD f) (tDA fs) σ H Q:=by
 obtain⟨H0,ρ,xs,ρ',st,e,k⟩:=h;unfold Dm.eAs at e;split at e
 ·cases e
 rename_i x1 ρ1 e1;split at e
 ·cases e
 rename_i xs1 ρ2 e2;cases e;refine⟨H0,ρ,x1,ρ1,st,e1,fun v H1 Hb t1 r1=>⟨H1,ρ1,xs1,_,t1.st,e2,fun vs H2 Hc t2 r2=>?_⟩⟩;exact k (v::vs) H2 Hc (t1.trans t2) (.cons (r1.mono t2) (r2.early fun a n=>t1.stp.gone n))
theorem QB{r:List V->Hp->VK->Prop}{g:List Dat->Option RV}(o:CallD r g)(h:tD (Dm.eB g fs) σ H Q):tCB r (tDA fs) σ H Q:=by
 obtain⟨H0,ρ,x,ρ',st,e,k⟩:=h;unfold Dm.eB at e;split at e
 ·cases e
 rename_i xs ρ1 e1;split at e
 ·cases e
 rename_i ds p1;split at e
 ·cases e
 rename_i z gz;cases e;refine⟨H0,ρ,xs,_,st,e1,fun vs H1 Hb t1 r1=>?_⟩;refine o H1 Hb vs ds z Q t1.st.same (looks t1.st r1 p1) gz fun w H3 Hd g3 r3=>?_;exact k w H3 Hd (t1.trans (.grow t1.st g3)) ((r3.toV t1.st).early fun a n=>t1.stp.gone n)
theorem xH{n:Nat}(h:n<=Dm.SZ):n<=sizeLine:=Nat.le_trans h (by decide)
theorem QC(h:tD (Dm.bJ fs) σ H Q):Qn (tDA fs) σ H Q:=by
 obtain⟨H0,ρ,x,ρ',st,e,k⟩:=h;unfold Dm.bJ at e;split at e
 ·cases e
 rename_i xs ρ1 e1;split at e
 ·cases e
 rename_i ds ρ2 e2;split at e
 ·rename_i hz;cases e;refine⟨H0,ρ,xs,ρ1,st,e1,fun vs H1 Hb t1 r1=>?_⟩;obtain⟨H2,t2,b2,r2⟩:=takes t1 (bg.refl _) r1 e2;refine⟨by rw[r2.length];exact xH hz,fun p hp=>?_⟩;have g:=bA.BJ (o:=HO.tup vs) t2.st.same hp;exact k _ _ _ (t2.trans (.grow t2.st g)) (.tup aL (r2.mono g.s0))
 ·cases e
theorem QD(h:tD (Dm.bS fs) σ H Q):Qo (tDA fs) σ H Q:=by
 obtain⟨H0,ρ,x,ρ',st,e,k⟩:=h;unfold Dm.bS at e;split at e
 ·cases e
 rename_i xs ρ1 e1;split at e
 ·cases e
 rename_i ds ρ2 e2;split at e
 ·rename_i hz;cases e;refine⟨H0,ρ,xs,ρ1,st,e1,fun vs H1 Hb t1 r1=>?_⟩;obtain⟨H2,t2,b2,r2⟩:=takes t1 (bg.refl _) r1 e2;refine⟨by rw[r2.length];exact xH hz,fun p hp=>?_⟩;have g:=bA.zI (o:=HO.lst vs) t2.st.same hp;refine k _ _ _ (t2.trans (.grow t2.st g)) ⟨p,rfl,t2.stp.gone hp,fun⟨i,d,h1,h2⟩=>?_,t2.st.same.free hp,vs,aL,r2⟩;obtain⟨a,q,_,w⟩:=t2.st.ow i d h1;rw[h2]at q;cases q;obtain⟨o,z⟩:=w.some;rw[hp]at z;cases z
 ·cases e
theorem Rep.plain{H0 H1:Hp}(r:Rep H0 v d)(n:Dm.bW d=false):Rep H1 v d:=by
 cases r with
 |non=>exact .non
 |bl b=>exact .bl b
 |int i=>exact .int i
 |str s=>exact .str s
 |tup _ _=>cases n
 |lst _ _=>cases n
 |dct _ _ _=>cases n
 |dcp _ _ _=>cases n
 |exc _=>cases n
 |cz _ _=>cases n
 |fn a=>exact .fn a
theorem Own.box{H0 H:Hp}{a:Addr}(w:Own H0 H a d):Dm.bW d=true:=by
 cases d with
 |lst ds=>rfl
 |dct ks ds=>rfl
 |dcp ks ds=>rfl
 |_=>exact UH w
theorem HN{f:List Dat->Option RV}{E:XK}(h:tD (Dm.eF f fs) σ H Q):MR (spD f) [] E (tDA fs) σ H Q:=by
 obtain⟨H0,ρ,x,ρ',st,e,k⟩:=h;unfold Dm.eF at e;split at e
 ·cases e
 rename_i xs ρ1 e1;split at e
 ·cases e
 rename_i ds p1;split at e
 ·cases e
 rename_i z fz;refine⟨H0,ρ,xs,ρ1,st,e1,fun vs H1 Hb t1 r1=>?_⟩;dsimp only;rw[U3];obtain⟨ρ2,e2⟩:=mG p1;obtain⟨H2,t2,b2,r2⟩:=takes t1 (bg.refl _) r1 e2;split at e
 ·rw[e2]at e;cases e;exact⟨H2,ds,z,t2.st.same,r2,fz,fun w H3 Hd g3 r3=>k w H3 Hd (t2.trans (.grow t2.st g3)) ((r3.toV t2.st).early fun a n=>t2.stp.gone n)⟩
 ·rename_i nb;cases e;refine⟨H2,ds,z,t2.st.same,r2,fz,fun w H3 Hd g3 r3=>?_⟩;have g:bA H1 Hb H1 Hd:=⟨bg.refl _,g3.s1,fun a o q=>.inr q,t1.st.same.trans g3.s1⟩
  refine k w H1 Hd (t1.trans (.grow t1.st g)) ?_;cases z with
  |val d=>exact Rep.plain r3 (by simpa [RV.dat] using nb)
  |new d=>obtain⟨a,_,_,_,w⟩:=r3;exact absurd w.box (by simpa [RV.dat] using nb)
theorem Rep.zJ{c:Bool}(r:Rep H0 v (.bl c)):v=.bl c:=by cases r;rfl
theorem Rep.isInt{c:Int}(r:Rep H0 v (.int c)):v=.int c:=by cases r;rfl
theorem QE(h:tD (Dm.dI a b) σ H Q):MH (tD a) (tD b) σ H Q:=by
 obtain⟨H0,ρ,x,ρ',st,e,k⟩:=h;unfold Dm.dI at e;split at e
 ·rename_i ρ1 e1;refine⟨H0,ρ,_,_,st,e1,fun v H1 Hb t1 r1=>⟨true,Rep.zJ r1,?_⟩⟩
  try dsimp only
  rw[if_pos rfl];exact⟨H1,ρ1,x,ρ',t1.st,e,fun v H2 Hc t2 r2=>k v H2 Hc (t1.trans t2) (r2.early fun a n=>t1.stp.gone n)⟩
 ·rename_i ρ1 e1;cases e;refine⟨H0,ρ,_,_,st,e1,fun v H1 Hb t1 r1=>⟨false,Rep.zJ r1,?_⟩⟩
  try dsimp only
  rw[if_neg UZ];exact k _ H1 Hb t1 (Rep.bl false)
 ·cases e
theorem S4(h:tD (Dm.eOr a b) σ H Q):Qc (tD a) (tD b) σ H Q:=by
 obtain⟨H0,ρ,x,ρ',st,e,k⟩:=h;unfold Dm.eOr at e;split at e
 ·rename_i ρ1 e1;cases e;refine⟨H0,ρ,_,_,st,e1,fun v H1 Hb t1 r1=>⟨true,Rep.zJ r1,?_⟩⟩
  try dsimp only
  rw[if_pos rfl];exact k _ H1 Hb t1 (Rep.bl true)
 ·rename_i ρ1 e1;refine⟨H0,ρ,_,_,st,e1,fun v H1 Hb t1 r1=>⟨false,Rep.zJ r1,?_⟩⟩
  try dsimp only
  rw[if_neg UZ];exact⟨H1,ρ1,x,ρ',t1.st,e,fun v H2 Hc t2 r2=>k v H2 Hc (t1.trans t2) (r2.early fun a n=>t1.stp.gone n)⟩
 ·cases e
theorem QF{a:FE}(h:tD (Dm.eW a) σ H Q):MK (tD a) σ H Q:=by
 obtain⟨H0,ρ,x,ρ',st,e,k⟩:=h;unfold Dm.eW at e;split at e
 ·rename_i c ρ1 e1;cases e;exact⟨H0,ρ,_,_,st,e1,fun v H1 Hb t1 r1=>⟨c,Rep.zJ r1,k _ H1 Hb t1 (Rep.bl (!c))⟩⟩
 ·cases e
variable{Qt:Bool->Hp->Prop}
theorem HP{a:FE}(h:tDT (Dm.tV a) σ H Qt):MQ (tD a) σ H Qt:=by
 obtain⟨H0,ρ,x,ρ',st,e,k⟩:=h;unfold Dm.tV at e;split at e
 ·rename_i c ρ1 e1;cases e;exact⟨H0,ρ,_,_,st,e1,fun v H1 Hb t1 r1=>⟨_,Rep.zJ r1,k H1 Hb t1⟩⟩
 ·cases e
theorem Oa{t:FT}(h:tDT (Dm.bM t) σ H Qt):bM (tDT t) σ H Qt:=by
 obtain⟨H0,ρ,x,ρ',st,e,k⟩:=h;unfold Dm.bM at e;split at e
 ·rename_i c ρ1 e1;cases e;exact⟨H0,ρ,_,_,st,e1,fun H1 Hb t1=>k H1 Hb t1⟩
 ·cases e
theorem Ob(h:tDT (Dm.dB t u) σ H Qt):dB (tDT t) (tDT u) σ H Qt:=by
 obtain⟨H0,ρ,x,ρ',st,e,k⟩:=h;unfold Dm.dB at e;split at e
 ·rename_i ρ1 e1;refine⟨H0,ρ,_,ρ1,st,e1,fun H1 Hb t1=>?_⟩;dsimp only;rw[if_pos rfl];exact⟨H1,ρ1,x,ρ',t1.st,e,fun H2 Hc t2=>k H2 Hc (t1.trans t2)⟩
 ·rename_i ρ1 e1;cases e;refine⟨H0,ρ,_,_,st,e1,fun H1 Hb t1=>?_⟩;dsimp only;rw[if_neg UZ];exact k H1 Hb t1
 ·cases e
theorem QG(h:tDT (Dm.tOr t u) σ H Qt):tOr (tDT t) (tDT u) σ H Qt:=by
 obtain⟨H0,ρ,x,ρ',st,e,k⟩:=h;unfold Dm.tOr at e;split at e
 ·rename_i ρ1 e1;cases e;refine⟨H0,ρ,_,_,st,e1,fun H1 Hb t1=>?_⟩;dsimp only;rw[if_pos rfl];exact k H1 Hb t1
 ·rename_i ρ1 e1;refine⟨H0,ρ,_,ρ1,st,e1,fun H1 Hb t1=>?_⟩;dsimp only;rw[if_neg UZ];exact⟨H1,ρ1,x,ρ',t1.st,e,fun H2 Hc t2=>k H2 Hc (t1.trans t2)⟩
 ·cases e
end
end
section
variable{ρ:Dm.Env}{H0 H:Hp}{σ:L2.St}
structure SSt(σ:St)(ρ:Dm.Env)(H0 H:Hp)(σ':St)(ρ':Dm.Env)(H0' H':Hp):Prop where
 st:aW H0' H' σ' ρ'
 stp:Stp (aV σ ρ) H0 H H0' H'
 own:∀a,aV σ' ρ' a->aV σ ρ a\/H a=none
 fx:σ'[0]?=σ[0]?
theorem ESt.sst{σ:St}{ρ ρ':Dm.Env}{H0 H H0' H':Hp}(t:ESt σ ρ H0 H ρ' H0' H'):SSt σ ρ H0 H σ ρ' H0' H':=⟨t.st,t.stp,fun a z=>.inl (t.own a z),rfl⟩
theorem SSt.refl{σ:St}(st:aW H0 H σ ρ):SSt σ ρ H0 H σ ρ H0 H:=(ESt.refl st).sst
theorem SSt.trans{σ σ1 σ2:St}{ρ ρ1 ρ2:Dm.Env}{H0 H H1 H' H2 H'':Hp}(t:SSt σ ρ H0 H σ1 ρ1 H1 H')(u:SSt σ1 ρ1 H1 H' σ2 ρ2 H2 H''):SSt σ ρ H0 H σ2 ρ2 H2 H'':=
 ⟨u.st,t.stp.trans u.stp t.own,fun a z=>(u.own a z).elim (t.own a) fun n=>.inr (t.stp.gone n),u.fx.trans t.fx⟩
def BK(σ:St)(ρ:Dm.Env)(H H0' H':Hp)(v:V):RV->Prop
 |.val d=>Rep H0' v d
 |.new d=>∃a,v=V.ref a/\(H a=none\/aV σ ρ a)/\H0' a=none/\Own H0' H' a d
def wg(D:Ends)(σ:St)(ρ:Dm.Env)(H0 H:Hp):Dm.Out->Prop
 |.nx ρ'=>∀σ' H0' H',SSt σ ρ H0 H σ' ρ' H0' H'->D.nx σ' H'
 |.bk ρ'=>∀σ' H0' H',SSt σ ρ H0 H σ' ρ' H0' H'->D.bk σ' H'
 |.ct ρ'=>∀σ' H0' H',SSt σ ρ H0 H σ' ρ' H0' H'->D.ct σ' H'
 |.ret z ρ'=>∀σ' v H0' H',SSt σ ρ H0 H σ' ρ' H0' H'->BK σ ρ H H0' H' v z->(∀d a,z=.new d->v=.ref a->¬aV σ' ρ' a)->D.rt v H'
def tDS(g:FS):TS:=fun D σ H=>∃H0 ρ o,aW H0 H σ ρ/\g ρ=some o/\wg D σ ρ H0 H o
theorem wg.pre{D:Ends}{σ σ1:St}{ρ ρ1:Dm.Env}{H0 H H1 H':Hp}{o:Dm.Out}(t:SSt σ ρ H0 H σ1 ρ1 H1 H')(k:wg D σ ρ H0 H o):wg D σ1 ρ1 H1 H' o:=by
 cases o with
 |nx ρ'=>exact fun σ' H0' H' u=>k σ' H0' H' (t.trans u)
 |bk ρ'=>exact fun σ' H0' H' u=>k σ' H0' H' (t.trans u)
 |ct ρ'=>exact fun σ' H0' H' u=>k σ' H0' H' (t.trans u)
 |ret z ρ'=>
  refine fun σ' v H0' H'' u r no=>k σ' v H0' H'' (t.trans u) ?_ no;cases z with
  |val d=>exact r
  |new d=>
   obtain⟨a,e,n,n0,w⟩:=r;refine⟨a,e,?_,n0,w⟩;rcases n with n | n
   ·exact .inl (t.stp.gone n)
   ·exact(t.own a n).symm
theorem aW.mask(st:aW H0 H σ ρ)(i:Nat):aW H0 H σ (ρ.set i .un) where
 same:=st.same
 len:=by rw[Vv];exact st.len
 sh:=fun j d h=>by
  by_cases q:i=j
  ·subst q;rw[VR]at h;simp only[if_true]at h;split at h<;>cases h
  ·rw[gV q]at h;exact st.sh j d h
 ow:=fun j d h=>by
  by_cases q:i=j
  ·subst q;rw[VR]at h;simp only[if_true]at h;split at h<;>cases h
  ·rw[gV q]at h;exact st.ow j d h
 dis:=fun j j' d d' a h1 h2 h3 h4=>by
  by_cases q:i=j
  ·subst q;rw[VR]at h1;simp only[if_true]at h1;split at h1<;>cases h1
  ·by_cases q':i=j'
   ·subst q';rw[VR]at h2;simp only[if_true]at h2;split at h2<;>cases h2
   ·rw[gV q]at h1;rw[gV q']at h2;exact st.dis j j' d d' a h1 h2 h3 h4
theorem mH{i:Nat}{a:Addr}(h:aV σ (ρ.set i .un) a):∃(j:Nat) (d:Dat),j≠i/\ρ[j]?=some (Dm.Cell.ow d)/\σ[j]?=some (some (V.ref a)):=by
 obtain⟨j,d,h1,h2⟩:=h;by_cases q:i=j
 ·subst q;rw[VR]at h1;simp only[if_true]at h1;split at h1<;>cases h1
 ·rw[gV q]at h1;exact⟨j,d,fun z=>q z.symm,h1,h2⟩
end
section
variable{D:Ends}{σ:St}{H:Hp}
theorem S5(h:tDS Dm.sNx D σ H):G_ D σ H:=by obtain⟨H0,ρ,o,st,e,k⟩:=h;cases e;exact k σ H0 H (.refl st)
theorem QH{s u:FS}(h:tDS (Dm.aO s u) D σ H):Kp (tDS s) (tDS u) D σ H:=by
 obtain⟨H0,ρ,o,st,e,k⟩:=h;unfold Dm.aO at e;split at e
 ·rename_i ρ1 e1;exact⟨H0,ρ,.nx ρ1,st,e1,fun σ' H0' H' t=>⟨H0',ρ1,o,t.st,e,k.pre t⟩⟩
 ·rename_i h1;cases o with
  |nx ρ1=>exact absurd e (h1 ρ1)
  |bk ρ1=>exact⟨H0,ρ,_,st,e,k⟩
  |ct ρ1=>exact⟨H0,ρ,_,st,e,k⟩
  |ret z ρ1=>exact⟨H0,ρ,_,st,e,k⟩
theorem Oc{f:FE}(h:tDS (Dm.sE f) D σ H):Eo (tD f) D σ H:=by
 obtain⟨H0,ρ,o,st,e,k⟩:=h;unfold Dm.sE at e;split at e
 ·cases e
 ·rename_i x ρ1 e1;cases e;exact⟨H0,ρ,x,ρ1,st,e1,fun v H0' H' t r=>k σ H0' H' t.sst⟩
theorem QI{f:FE}(h:tDS (Dm.sR f) D σ H):Qe (tD f) D σ H:=by
 obtain⟨H0,ρ,o,st,e,k⟩:=h;unfold Dm.sR at e;split at e
 ·cases e
 ·rename_i d ρ1 e1;cases e;refine⟨H0,ρ,_,ρ1,st,e1,fun v H0' H' t r=>?_⟩;obtain⟨a,e,n,no,n0,w⟩:=r;exact k σ v H0' H' t.sst ⟨a,e,.inl n,n0,w⟩ fun d' a' _ e' z=>by rw[e]at e';cases e';exact no z
 ·rename_i d ρ1 e1;cases e;exact⟨H0,ρ,_,ρ1,st,e1,fun v H0' H' t r=>k σ v H0' H' t.sst r fun d' a' z=>by cases z⟩
 ·rename_i i ρ1 e1;split at e
  ·rename_i d h1;cases e;refine⟨H0,ρ,_,ρ1,st,e1,fun v H0' H' t r=>?_⟩;obtain⟨q,_⟩:=r;obtain⟨a,q',n0,w⟩:=t.st.ow i d h1;rw[q]at q';cases q';refine k σ _ H0' H' ⟨t.st.mask i,t.stp,fun b z=>?_,rfl⟩ ⟨a,rfl,.inr (t.own a ⟨i,d,h1,q⟩),n0,w⟩ fun d' a' _ e' z=>?_
   ·obtain⟨j,d2,_,z1,z2⟩:=mH z;exact .inl (t.own b ⟨j,d2,z1,z2⟩)
   ·cases e';obtain⟨j,d2,hj,z1,z2⟩:=mH z;exact hj (t.st.dis j i d2 d a z1 h1 z2 q)
  ·rename_i d h1;cases e;refine⟨H0,ρ,_,ρ1,st,e1,fun v H0' H' t r=>?_⟩;obtain⟨q,_⟩:=r;obtain⟨u,q',w⟩:=t.st.sh i d h1;rw[q]at q';cases q';exact k σ _ H0' H' t.sst w fun d' a' z=>by cases z
  ·cases e
theorem QJ{t:FT}{a b:FS}(h:tDS (Dm.sIf t a b) D σ H):Qf (tDT t) (tDS a) (tDS b) D σ H:=by
 obtain⟨H0,ρ,o,st,e,k⟩:=h;unfold Dm.sIf at e;split at e
 ·cases e
 ·rename_i ρ1 e1;refine⟨H0,ρ,true,ρ1,st,e1,fun H1 Hb t1=>?_⟩;dsimp only;rw[if_pos rfl];exact⟨H1,ρ1,o,t1.st,e,k.pre t1.sst⟩
 ·rename_i ρ1 e1;refine⟨H0,ρ,false,ρ1,st,e1,fun H1 Hb t1=>?_⟩;dsimp only;rw[if_neg UZ];exact⟨H1,ρ1,o,t1.st,e,k.pre t1.sst⟩
end
section
variable{ρ:Dm.Env}{σ:St}{i:Nat}{H0 H:Hp}{d:Dat}{a:Addr}{b:Addr}{o:HO}{v:V}
theorem nY{i j:Nat}{c d:Option V}(h:(σ.set i c)[j]?=some d):(j=i/\d=c)\/(j≠i/\σ[j]?=some d):=by
 by_cases e:j=i
 ·subst e;by_cases l:j<σ.length
  ·rw[U1 l]at h;exact .inl ⟨rfl,(Option.some.inj h).symm⟩
  ·rw[Vg (by simpa using Wm.mp l)]at h;cases h
 ·rw[gV (Vl e)]at h;exact .inr ⟨e,h⟩
theorem aW.inσ{c d:Dm.Cell}(st:aW H0 H σ ρ)(h:(ρ.set i c)[i]?=some d):i<σ.length:=by have:=(UT.mp h).1;rw[Vv]at this;rw[st.len];exact this
theorem jb(h:aV (σ.set i (some v)) (ρ.set i (.sh d)) b):aV σ ρ b:=by
 obtain⟨j,d',h1,h2⟩:=h;rcases cB h1 with⟨_,z⟩ | ⟨hj,h1⟩
 ·cases z
 ·rcases nY h2 with⟨z,_⟩ | ⟨_,h2⟩
  ·exact absurd z hj
  ·exact⟨j,d',h1,h2⟩
theorem aW.x_(st:aW H0 H σ ρ)(r:Rep H0 v d):aW H0 H (σ.set i (some v)) (ρ.set i (.sh d)) where
 same:=st.same
 len:=by rw[Vv,Vv];exact st.len
 sh:=fun j d' h=>by
  rcases cB h with⟨rfl,z⟩ | ⟨hj,h'⟩
  ·cases z;exact⟨v,U1 (st.inσ h),r⟩
  ·obtain⟨u,q,w⟩:=st.sh j d' h';exact⟨u,by rw[gV (Vl hj)];exact q,w⟩
 ow:=fun j d' h=>by
  rcases cB h with⟨_,z⟩ | ⟨hj,h'⟩
  ·cases z
  ·obtain⟨u,q,w⟩:=st.ow j d' h';exact⟨u,by rw[gV (Vl hj)];exact q,w⟩
 dis:=fun j k d1 d2 b h1 h2 h3 h4=>by
  rcases cB h1 with⟨_,z⟩ | ⟨hj,h1⟩
  ·cases z
  rcases cB h2 with⟨_,z⟩ | ⟨hk,h2⟩
  ·cases z
  rw[gV (Vl hj)]at h3;rw[gV (Vl hk)]at h4;exact st.dis j k d1 d2 b h1 h2 h3 h4
theorem aW.Od(st:aW H0 H σ ρ)(no:¬aV σ ρ a)(n0:H0 a=none)(w:Own H0 H a d):aW H0 H (σ.set i (some (.ref a))) (ρ.set i (.ow d)) where
 same:=st.same
 len:=by rw[Vv,Vv];exact st.len
 sh:=fun j d' h=>by
  rcases cB h with⟨_,z⟩ | ⟨hj,h'⟩
  ·cases z
  ·obtain⟨u,q,w⟩:=st.sh j d' h';exact⟨u,by rw[gV (Vl hj)];exact q,w⟩
 ow:=fun j d' h=>by
  rcases cB h with⟨rfl,z⟩ | ⟨hj,h'⟩
  ·cases z;exact⟨a,U1 (st.inσ h),n0,w⟩
  ·obtain⟨u,q,w⟩:=st.ow j d' h';exact⟨u,by rw[gV (Vl hj)];exact q,w⟩
 dis:=fun j k d1 d2 b h1 h2 h3 h4=>by
  rcases cB h1 with⟨e1,z1⟩ | ⟨hj,h1'⟩
  ·rcases cB h2 with⟨e2,z2⟩ | ⟨hk,h2'⟩
   ·rw[e1,e2]
   ·rcases nY h3 with⟨_,z⟩ | ⟨z,_⟩
    ·cases z;rw[gV (Vl hk)]at h4;exact absurd ⟨k,d2,h2',h4⟩ no
    ·exact absurd e1 z
  ·rcases cB h2 with⟨e2,z2⟩ | ⟨hk,h2'⟩
   ·rcases nY h4 with⟨_,z⟩ | ⟨z,_⟩
    ·cases z;rw[gV (Vl hj)]at h3;exact absurd ⟨j,d1,h1',h3⟩ no
    ·exact absurd e2 z
   ·rw[gV (Vl hj)]at h3;rw[gV (Vl hk)]at h4;exact st.dis j k d1 d2 b h1' h2' h3 h4
theorem AJ{a b:Addr}(h:aV (σ.set i (some (.ref a))) (ρ.set i (.ow d)) b):b=a\/aV σ ρ b:=by
 obtain⟨j,d',h1,h2⟩:=h;rcases cB h1 with⟨e,_⟩ | ⟨hj,h1⟩
 ·rcases nY h2 with⟨_,z⟩ | ⟨z,_⟩
  ·cases z;exact .inl rfl
  ·exact absurd e z
 ·rcases nY h2 with⟨z,_⟩ | ⟨_,h2⟩
  ·exact absurd z hj
  ·exact .inr ⟨j,d',h1,h2⟩
theorem aW.write{d d':Dat}(st:aW H0 H σ ρ)(e:ρ[i]?=some (.ow d))(q:σ[i]?=some (some (V.ref a)))(w':Own H0 (upd H a o) a d') :
  aW H0 (upd H a o) σ (ρ.set i (.ow d')):=by
 obtain⟨a',q',n,w⟩:=st.ow i d e;rw[q]at q';cases q';refine⟨fun b u z=>?_,by rw[Vv];exact st.len,fun j d1 h=>?_,fun j d1 h=>?_,fun j k d1 d2 b h1 h2 h3 h4=>?_⟩
 ·rw[aJ (bQ z n)];exact st.same _ _ z
 ·rcases cB h with⟨_,z⟩ | ⟨hj,h'⟩
  ·cases z
  ·exact st.sh j d1 h'
 ·rcases cB h with⟨rfl,z⟩ | ⟨hj,h'⟩
  ·cases z;exact⟨a,q,n,w'⟩
  ·obtain⟨b,q1,n1,w1⟩:=st.ow j d1 h';have nb:b≠a:=fun y=>hj (st.dis j i d1 d a h' e (y▸q1) q);exact⟨b,q1,n1,w1.mono (bg.refl _) (aJ nb)⟩
 ·have f:∀{j:Nat} {d1:Dat},(ρ.set i (.ow d'))[j]?=some (.ow d1)->∃d2,ρ[j]?=some (.ow d2):=fun {j d1} h=>by
   rcases cB h with⟨rfl,_⟩ | ⟨_,h'⟩
   ·exact⟨d,e⟩
   ·exact⟨d1,h'⟩
  obtain⟨x1,y1⟩:=f h1;obtain⟨x2,y2⟩:=f h2;exact st.dis j k x1 x2 b y1 y2 h3 h4
theorem BL{d d':Dat}(e:ρ[i]?=some (.ow d))(h:aV σ (ρ.set i (.ow d')) b):aV σ ρ b:=by
 obtain⟨j,d1,h1,h2⟩:=h;rcases cB h1 with⟨rfl,_⟩ | ⟨_,h'⟩
 ·exact⟨j,d,e,h2⟩
 ·exact⟨j,d1,h',h2⟩
theorem Stp.write(w:aV σ ρ a):Stp (aV σ ρ) H0 H H0 (upd H a o):=
 ⟨bg.refl _,fun b u e n=>by rw [aJ (show b≠a from fun z=>n (by rw [z];exact w))];exact e,fun b u e=>.inr (.inl e),fun b u e=>by
  by_cases z:b=a
  ·subst z;exact⟨o,aL⟩
  ·exact⟨u,by rw[aJ z];exact e⟩⟩
end
section
variable{D:Ends}{σ:St}{H:Hp}
section
variable{f:FE}{is:List Nat}{ρ:Dm.Env}{body:FS}{a:Addr}{K:gc}{ds:List Dat}{d:Dat}{bd:Dm.FB}{i:Nat}{xs:List V}{vs:List V}{n:Nat}{H0:Hp}{k:Nat}{fi:Dm.FI}{t:FT}{g:TG}{o:HO}{Q:VK}{E:XK}
theorem QK(h:tDS (Dm.sA i f) D σ H):Ks (tD f) (By i) D σ H:=by
 obtain⟨H0,ρ,o,st,e,k⟩:=h;unfold Dm.sA at e;split at e
 ·cases e
 rename_i hi0;split at e
 ·cases e
 ·rename_i d ρ1 e1;cases e;refine⟨H0,ρ,_,ρ1,st,e1,fun v H0' H' t r=>?_⟩;obtain⟨a,e,n,no,n0,w⟩:=r;subst e;refine k _ H0' H' ⟨t.st.Od no n0 w,t.stp,fun b z=>?_,gV hi0⟩;rcases AJ z with rfl | z
  ·exact .inr n
  ·exact .inl (t.own b z)
 ·rename_i x ρ1 _ e1;split at e
  ·cases e
  ·rename_i d ρ2 e2;cases e;refine⟨H0,ρ,_,ρ1,st,e1,fun v H0' H' t r=>?_⟩;obtain⟨H1,t1,b1,r1,_,_⟩:=take1 t (bg.refl _) r e2;exact k _ H1 H' ⟨t1.st.x_ r1,t1.stp,fun b z=>.inl (t1.own b (jb z)),gV hi0⟩
theorem Ez{j:Nat}(h:Def ρ j):Def (ρ.set i (.sh d)) j:=trivial
noncomputable def qO:List Nat->TGs
 |[]=>Qg
 |i::is=>ML (By i) (qO is)
theorem EA{H0 H:Hp}{Q:St->Hp->Prop}:∀{is:List Nat} {xs:List V} {ds:List Dat} {σ:St} {ρ ρ':Dm.Env},aW H0 H σ ρ->bz H0 xs ds->Dm.sets is ds ρ=some ρ' ->
  (∀σ',aW H0 H σ' ρ'->(∀a,aV σ' ρ' a->aV σ ρ a)->(∀j,j∉is->σ'[j]?=σ[j]?)->(∀j,Def ρ j->Def ρ' j)->σ'[0]?=σ[0]?->Q σ' H)->qO is xs σ H Q
 |[],_,[],σ,ρ,ρ',st,r,e,k=>by cases r;cases e;exact⟨rfl,k σ st (fun _ z=>z) (fun _ _=>rfl) (fun _ z=>z) rfl⟩
 |i::is,_,d::ds,σ,ρ,ρ',st,r,e,k=>by
  cases r with
  |cons h r=>
   unfold Dm.sets at e;split at e
   ·cases e
   rename_i hi0;refine⟨_,_,rfl,?_⟩;refine EA (st.x_ h) r e fun σ' st' o' n' d' f'=>k σ' st' (fun a z=>jb (o' a z)) (fun j hj=>?_) (fun j z=>d' j (Ez z)) (f'.trans (gV hi0));rw[n' j fun z=>hj (Ue _ z)];exact gV fun z=>hj (by rw[z];exact Uj)
 |[],_,_::_,_,_,_,_,_,e,_=>by cases e
 |_::_,_,[],_,_,_,_,_,e,_=>by cases e
theorem BN:∀{is:List Nat} {ds:List Dat} {ρ ρ':Dm.Env},Dm.sets is ds ρ=some ρ'->ds.length=is.length
 |[],[],_,_,_=>rfl
 |i::is,_::ds,_,_,e=>by
  unfold Dm.sets at e;split at e
  ·cases e
  ·simp[BN (is:=is) (ds:=ds) e]
 |[],_::_,_,_,e=>by cases e
 |_::_,[],_,_,e=>by cases e
def BD(is:List Nat)(g:TG)(bd:Dm.FB):Prop:=∀(H0 H:Hp) (σ:St) (ρ ρ':Dm.Env) (x:V) (d:Dat) (Q:St->Hp->Prop),aW H0 H σ ρ->Rep H0 x d->bd d ρ=some ρ' ->
 (∀σ',aW H0 H σ' ρ'->(∀a,aV σ' ρ' a->aV σ ρ a)->(∀j,j∉is->σ'[j]?=σ[j]?)->(∀j,Def ρ j->Def ρ' j)->σ'[0]?=σ[0]?->Q σ' H)->g x σ H Q
theorem EB(i:Nat):BD [i] (By i) (Dm.bN i):=by
 intro H0 H σ ρ ρ' x d Q st r e k;unfold Dm.bN at e;split at e
 ·cases e
 rename_i hi0;cases e;refine k _ (st.x_ r) (fun a z=>jb z) (fun j hj=>?_) (fun j h=>Ez h) (gV hi0);exact gV (fun z=>hj (by rw[z];exact UK.mpr rfl))
theorem HQ(hn:is.length=n)(h:tDS (Dm.sU is f) D σ H):Ks (tD f) (Qh K n (qO is)) D σ H:=by
 obtain⟨H0,ρ,o,st,e,k⟩:=h;unfold Dm.sU at e;split at e
 ·cases e
 ·rename_i x ρ1 e1;split at e
  ·rename_i ds ρ2 e2;split at e
   ·cases e
   ·rename_i ρ3 e3;cases e;refine⟨H0,ρ,_,ρ1,st,e1,fun v H0' H' t r=>?_⟩;obtain⟨H1,t1,b1,r1,_,_⟩:=take1 t (bg.refl _) r e2;cases r1 with
    |tup q rs=>refine⟨_,_,rfl,SqT.of (t1.st.same _ _ q),by rw[rs.length,BN e3,hn],?_⟩;exact EA t1.st rs e3 fun σ' st' o' _ _ f'=>k σ' H1 H' ⟨st',t1.stp,fun a z=>.inl (t1.own a (o' a z)),f'⟩
  ·cases e
theorem QL(h:tDS (Dm.dF i f) D σ H):Eo (tBM K "list" Ew (Bx i) (tDA [f])) D σ H:=by
 obtain⟨H0,ρ,o,st,e,k⟩:=h;unfold Dm.dF at e;split at e
 ·rename_i ds0 h0;obtain⟨a0,q0,n0,w0⟩:=st.ow i _ h0;refine⟨_,q0,?_⟩;split at e
  ·cases e
  rename_i x ρ1 e1;split at e
  ·cases e
  rename_i d ρ2 e2;split at e
  ·rename_i ds h2;split at e
   ·rename_i hz;cases e;obtain⟨xs0,y0,_⟩:=w0;refine⟨.inl ⟨rfl,xs0,.inl (.inl y0)⟩,?_⟩;refine⟨H0,ρ,[x],ρ1,st,by unfold Dm.eAs;rw[e1];rfl,fun vs H0' H' t r=>?_⟩;cases r with
    |cons r rr=>
     cases rr;obtain⟨H1,t1,b1,r1,_,_⟩:=take1 t (bg.refl _) r e2;obtain⟨a,q,n,w⟩:=t1.st.ow i _ h2;rw[q0]at q;cases q;obtain⟨xs,y,rs⟩:=w;refine⟨a0,xs,_,rfl,rfl,y,by rw[rs.length];exact UJ hz (by decide),?_⟩;have ow:aV σ ρ2 a0:=⟨i,_,h2,q0⟩
     refine k σ H1 _ ⟨t1.st.write h2 q0 ⟨_,aL,rs.append (.cons r1 .nil)⟩,t1.stp.trans (Stp.write ow) fun b z=>.inl (t1.own b z),fun b z=>.inl (t1.own b (BL h2 z)),rfl⟩
   ·cases e
  ·cases e
 ·cases e
theorem KJ(h:tDS (Dm.whD t body n) D σ H):Hl (tDT t) (tDS body) D σ H:=by
 refine⟨fun m σ H=>tDS (Dm.whD t body m) D σ H,⟨n,h⟩,?_⟩;rintro m σ H ⟨H0,ρ,o,st,e,k⟩;cases m with
 |zero=>unfold Dm.whD at e;cases e
 |succ m=>
  unfold Dm.whD at e;split at e
  ·cases e
  ·rename_i ρ1 e1;cases e;refine⟨H0,ρ,false,ρ1,st,e1,fun H1 Hb t1=>?_⟩;dsimp only;rw[if_neg UZ];exact k σ H1 Hb t1.sst
  ·rename_i ρ1 e1;refine⟨H0,ρ,true,ρ1,st,e1,fun H1 Hb t1=>?_⟩;dsimp only;rw[if_pos rfl];refine⟨fun σ' H'=>tDS (Dm.whD t body m) D σ' H',fun σ' H' q=>⟨m,Xe m,q⟩,?_⟩;have k1:=k.pre t1.sst;split at e
   ·rename_i ρ2 e2;exact⟨H1,ρ1,_,t1.st,e2,fun σ' H0' H' t2=>⟨H0',ρ2,o,t2.st,e,k1.pre t2⟩⟩
   ·rename_i ρ2 e2;exact⟨H1,ρ1,_,t1.st,e2,fun σ' H0' H' t2=>⟨H0',ρ2,o,t2.st,e,k1.pre t2⟩⟩
   ·rename_i ρ2 e2;cases e;exact⟨H1,ρ1,_,t1.st,e2,k1⟩
   ·rename_i v ρ2 e2;cases e;exact⟨H1,ρ1,_,t1.st,e2,k1⟩
   ·cases e
def JW(J:It)(H00:Hp)(ys:List Dat):Prop:=∀H0 H,bg H00 H0->bg H0 H->(∀i,ys.length<=i->J.stop i H) /\
 ∀(i:Nat) (d:Dat),ys[i]?=some d->J.go i H/\∀x H',J.yld i H x H'->∃H0',bA H0 H H0' H'/\Rep H0' x d
def tDI(fi:Dm.FI):TI:=fun σ H R=>∃H0 ρ ys ρ',aW H0 H σ ρ/\fi ρ=some (ys,ρ')/\∀J H0' H',ESt σ ρ H0 H ρ' H0' H'->JW J H0' ys->R J H'
theorem QM(hb:BD is g bd)(h:tDS (Dm.dc fi bd body) D σ H):NT (tDI fi) g (tDS body) D σ H:=by
 obtain⟨H0,ρ,o,st,e,k⟩:=h;unfold Dm.dc at e;split at e
 ·cases e
 rename_i ys ρ1 e1;refine⟨H0,ρ,ys,ρ1,st,e1,fun J H00 Hb t1 jw=>?_⟩;refine ⟨fun i m σ H=>∃ H0 ρ o,aW H0 H σ ρ∧bg H00 H0∧m=ys.length-i∧i≤ys.length∧Dm.kD bd body (ys.drop i) ρ=some o∧wg D σ ρ H0 H o,
  ⟨ys.length,H00,ρ1,o,t1.st,bg.refl _,by simp,U6 _,by simpa using e,k.pre t1.sst⟩,?_⟩
 rintro i m σ H ⟨H0,ρ,o,st,s00,rfl,hi,e,k⟩;obtain⟨js,jg⟩:=jw H0 H s00 st.same;by_cases RO:i<ys.length
 ·have hd:ys[i]?=some ys[i]:=by simp[RO]
  obtain⟨g1,g2⟩:=jg i ys[i] hd;rw[VD RO]at e;unfold Dm.kD at e;refine .inr ⟨g1,fun σ' H'=>∃H0 ρ o,aW H0 H' σ' ρ/\bg H00 H0/\Dm.kD bd body (ys.drop (i+1)) ρ=some o/\wg D σ' ρ H0 H' o,?_,fun x H' y=>?_⟩
  ·rintro σ' H' ⟨H0',ρ',o',h1,h2,h3,h4⟩;exact⟨ys.length-(i+1),by lia,H0',ρ',o',h1,h2,rfl,RO,h3,h4⟩
  ·obtain⟨H0',gr,rx⟩:=g2 x H' y;split at e
   ·cases e
   ·rename_i ρ2 e2;have t2:=ESt.grow st gr;refine hb H0' H' σ ρ ρ2 x ys[i] _ t2.st rx e2 fun σ2 st2 o2 _ _ f2=>?_;have t3:SSt σ ρ H0 H σ2 ρ2 H0' H':=⟨st2,t2.stp,fun a z=>.inl (o2 a z),f2⟩
    have k3:=k.pre t3;have s3:bg H00 H0':=s00.trans gr.s0;split at e
    ·rename_i ρ3 e3;exact⟨H0',ρ2,_,st2,e3,fun σ4 H4 Hd t4=>⟨H4,ρ3,o,t4.st,s3.trans t4.stp.s0,e,k3.pre t4⟩⟩
    ·rename_i ρ3 e3;exact⟨H0',ρ2,_,st2,e3,fun σ4 H4 Hd t4=>⟨H4,ρ3,o,t4.st,s3.trans t4.stp.s0,e,k3.pre t4⟩⟩
    ·rename_i ρ3 e3;cases e;exact⟨H0',ρ2,_,st2,e3,k3⟩
    ·rename_i v ρ3 e3;cases e;exact⟨H0',ρ2,_,st2,e3,k3⟩
    ·cases e
 ·have e':i=ys.length:=by lia
  subst e';rw[List.drop_length]at e;cases e;exact .inl ⟨js _ (Nat.le_refl _),k σ H0 H (.refl st)⟩
theorem KL(hq:Rd H0 a (.lst xs))(rs:bz H0 xs ds):JW (Itl K a) H0 ds:=by intro H0' H s0 s1;have q:SqL K H a xs:=.inl (bg.rd s1 (bg.rd s0 hq));refine⟨fun i hi=>⟨xs,q,by rw[rs.length];exact hi⟩,fun i d e=>?_⟩;obtain⟨v,hv,rv⟩:=rs.get e;refine⟨⟨xs,v,q,hv⟩,fun x H' y=>?_⟩;obtain⟨e1,y⟩:=y;subst e1;have z:=y xs q;rw[hv]at z;cases z;exact⟨H0',bA.refl s1,rv.mono s0⟩
theorem Oe(hq:H0 a=some (.tup xs))(rs:bz H0 xs ds):JW (Itt K a) H0 ds:=by intro H0' H s0 s1;have q:SqT K H a xs:=.inl (.inl (s1 _ _ (s0 _ _ hq)));refine⟨fun i hi=>⟨xs,q,by rw[rs.length];exact hi⟩,fun i d e=>?_⟩;obtain⟨v,hv,rv⟩:=rs.get e;refine⟨⟨xs,v,q,hv⟩,fun x H' y=>?_⟩;obtain⟨e1,y⟩:=y;subst e1;have z:=y xs q;rw[hv]at z;cases z;exact⟨H0',bA.refl s1,rv.mono s0⟩
theorem BO{lo:Int}:JW (Itr lo n) H0 (Dm.ups lo n):=by
 intro H0' H s0 s1;have el:(Dm.ups lo n).length=n:=by simp[Dm.ups]
 refine⟨fun i hi=>by rw[el]at hi;exact hi,fun i d e=>?_⟩;have hi:i<n:=by have:=(UT.mp e).1;rw[el]at this;exact this
 have hd:d=.int (lo+i):=by unfold Dm.ups at e;rw[UX,List.getElem?_range hi]at e;exact(Option.some.inj e).symm
 refine⟨hi,fun x H' y=>?_⟩;obtain⟨rfl,rfl⟩:=y;subst hd;exact⟨H0',bA.refl s1,.int _⟩
variable{R:It->Hp->Prop}
theorem S6(h:tDI (Dm.iL f) σ H R):BB K (tD f) σ H R:=by
 obtain⟨H0,ρ,ys,ρ',st,e,k⟩:=h;unfold Dm.iL at e;split at e
 ·cases e
 rename_i x ρ1 e1;split at e
 ·rename_i ds ρ2 e2;cases e;refine⟨H0,ρ,_,ρ1,st,e1,fun v H0' H' t r=>?_⟩;obtain⟨H1,t1,b1,r1,_,_⟩:=take1 t (bg.refl _) r e2;cases r1 with
  |lst q rs=>exact⟨_,rfl,⟨_,.inl (bg.rd t1.st.same q)⟩,k _ H1 H' t1 (KL q rs)⟩
 ·cases e
theorem S7(h:tDI (Dm.iT f) σ H R):Hr K (tD f) σ H R:=by
 obtain⟨H0,ρ,ys,ρ',st,e,k⟩:=h;unfold Dm.iT at e;split at e
 ·cases e
 rename_i x ρ1 e1;split at e
 ·rename_i ds ρ2 e2;cases e;refine⟨H0,ρ,_,ρ1,st,e1,fun v H0' H' t r=>?_⟩;obtain⟨H1,t1,b1,r1,_,_⟩:=take1 t (bg.refl _) r e2;cases r1 with
  |tup q rs=>exact⟨_,rfl,⟨_,.inl (.inl (t1.st.same _ _ q))⟩,k _ H1 H' t1 (Oe q rs)⟩
 ·cases e
theorem QN(h:tDI (Dm.iR1 f) σ H R):MM (tDA [f]) σ H R:=by
 obtain⟨H0,ρ,ys,ρ',st,e,k⟩:=h;unfold Dm.iR1 at e;split at e
 ·rename_i j ρ1 e1;split at e
  ·rename_i hb;cases e;refine⟨H0,ρ,[.val (.int j)],_,st,by unfold Dm.eAs;rw[e1];rfl,fun vs H0' H' t r=>?_⟩;cases r with
   |cons r rr=>cases rr;cases Rep.isInt r;have h1:=hb.1;have h2:=hb.2;unfold Dm.BIG at h1 h2;exact⟨j,rfl,by lia,by lia,k _ H0' H' t BO⟩
  ·cases e
 ·cases e
theorem QO{f g:FE}(h:tDI (Dm.iR2 f g) σ H R):MN (tDA [f,g]) σ H R:=by
 obtain⟨H0,ρ,ys,ρ',st,e,k⟩:=h;unfold Dm.iR2 at e;split at e
 ·rename_i i ρ1 e1;split at e
  ·rename_i j ρ2 e2;split at e
   ·rename_i hb;cases e;refine⟨H0,ρ,[.val (.int i),.val (.int j)],_,st,by unfold Dm.eAs;rw[e1];dsimp only;unfold Dm.eAs;rw[e2];rfl,fun vs H0' H' t r=>?_⟩;cases r with
    |cons r rr=>
     cases rr with
     |cons r' rr=>cases rr;cases Rep.isInt r;cases Rep.isInt r';obtain⟨h1,h2,h3,h4⟩:=hb;unfold Dm.BIG at h1 h2 h3 h4;exact⟨i,j,rfl,⟨by lia,by lia,by lia,by lia⟩,k _ H0' H' t BO⟩
   ·cases e
  ·cases e
 ·cases e
def tLC(wi:TI)(own:Nat)(g:TG)(tt:TT)(te:TE):TE:=fun σ H Q=>wi σ H fun J H1=>∀D,H1 D=none->∃W:Nat->Nat->St->Hp->Prop,
 (∃m,W 0 m (σ++fj own none) (upd H1 D (.lst [])))/\∀i m σ' H',W i m σ' H' ->
  (J.stop i H'∧Q (.ref D) H')∨(J.go i H'∧∀ x H2,J.yld i H' x H2→g x σ' H2 fun σ2 H3=>tt σ2 H3 fun b H4=>if b=true
   then te σ2 H4 fun y H5=>∃Mc,H5 D=some (.lst Mc)/\Mc.length<sizeLine/\∃m',m'<m/\W (i+1) m' σ2 (upd H5 D (.lst (Mc++[y])))
   else ∃m',m'<m/\W (i+1) m' σ2 H4)
theorem aW.aside{H0 H:Hp}{σ:St}(st:aW H0 H σ ρ)(n0:H0 a=none)(no:¬aV σ ρ a):aW H0 (upd H a o) σ ρ where
 same:=fun b u z=>by rw[aJ (bQ z n0)];exact st.same _ _ z
 len:=st.len
 sh:=st.sh
 ow:=fun j d h=>by obtain⟨b,q,n,w⟩:=st.ow j d h;have nb:b≠a:=fun y=>no ⟨j,d,h,y▸q⟩;exact⟨b,q,n,w.mono (bg.refl _) (aJ nb)⟩
 dis:=st.dis
theorem aW.nZ{H0 H:Hp}{σ:St}(st:aW H0 H σ ρ)(h:H a=none):¬aV σ ρ a:=fun⟨i,d,h1,h2⟩=>by obtain⟨b,q,n,w⟩:=st.ow i d h1;rw[h2]at q;cases q;obtain⟨o,z⟩:=w.some;rw[h]at z;cases z
theorem tM{α:Type}{l:List α}{r:List α}{x:α}(h:(l++r)[i]?=some x)(n:x∉r):i<l.length/\l[i]?=some x:=by
 by_cases hi:i<l.length
 ·rw[Um hi]at h;exact⟨hi,h⟩
 ·rw[UI (Wm.mp hi)]at h;exact absurd (VO h) n
theorem HR:Dm.Cell.sh d∉fj k Dm.Cell.un:=fun h=>by have:=List.eq_of_mem_replicate h;cases this
theorem tN:Dm.Cell.ow d∉fj k Dm.Cell.un:=fun h=>by have:=List.eq_of_mem_replicate h;cases this
theorem aW.ext{H0 H:Hp}{σ:St}(st:aW H0 H σ ρ)(k:Nat):aW H0 H (σ++fj k none) (ρ++fj k .un) where
 same:=st.same
 len:=by simp[st.len]
 sh:=fun i d h=>by obtain⟨hi,h⟩:=tM h HR;obtain⟨v,q,r⟩:=st.sh i d h;exact⟨v,by rw[Um (by rw[st.len];exact hi)];exact q,r⟩
 ow:=fun i d h=>by obtain⟨hi,h⟩:=tM h tN;obtain⟨v,q,r⟩:=st.ow i d h;exact⟨v,by rw[Um (by rw[st.len];exact hi)];exact q,r⟩
 dis:=fun i j d e a h1 h2 h3 h4=>by obtain⟨hi,h1⟩:=tM h1 tN;obtain⟨hj,h2⟩:=tM h2 tN;rw[Um (by rw[st.len];exact hi)]at h3;rw[Um (by rw[st.len];exact hj)]at h4;exact st.dis i j d e a h1 h2 h3 h4
theorem Aa{H0 H:Hp}{σ:St}(st:aW H0 H σ ρ)(h:aV (σ++fj k none) (ρ++fj k .un) a):aV σ ρ a:=by obtain⟨i,d,h1,h2⟩:=h;obtain⟨hi,h1⟩:=tM h1 tN;rw[Um (by rw[st.len];exact hi)]at h2;exact⟨i,d,h1,h2⟩
theorem Stp.aside{O:Addr->Prop}{H0 H H0' H':Hp}{D:Addr}(t:Stp O H0 H H0' H')(hD:H D=none):Stp O H0 H H0' (upd H' D o):=
 ⟨t.s0,fun a u e n=>by rw[aJ (bQ e hD)];exact t.s1 a u e n,t.s2,fun a u e=>by rw[aJ (bQ e hD)];exact t.s3 a u e⟩
theorem ESt.wj{σ:St}{ρ ρ':Dm.Env}{H0 H H0' H':Hp}(t:ESt σ ρ H0 H ρ' H0' H'){D:Addr}(h:H D=some o)(n0:H0 D=none)(no:¬aV σ ρ D):H' D=some o/\H0' D=none/\¬aV σ ρ' D:=by
 refine⟨t.stp.s1 D o h no,?_,fun z=>no (t.own D z)⟩;cases q:H0' D with
 |none=>rfl
 |some u=>
  rcases t.stp.s2 D u q with z | z | z
  ·rw[h]at z;cases z
  ·rw[n0]at z;cases z
  ·exact absurd z no
def JWa(J:It)(H00:Hp)(pa:Option (Addr×HO))(ys:List Dat):Prop:=∀H0 H,bg H00 H0->bg H0 H->(∀q,pa=some q->H q.1=some q.2)->(∀i,ys.length<=i->J.stop i H) /\
 ∀(i:Nat) (d:Dat),ys[i]?=some d->J.go i H/\∀x H',J.yld i H x H'->∃H0',bA H0 H H0' H'/\Rep H0' x d
theorem BP{σ:St}{own:Nat}{t:FT}{el:FE}{Q:VK}{H00 Hb:Hp}{ρ1 ρ2:Dm.Env}{ds ys:List Dat}{J:It}{pa:Option (Addr×HO)}(hb:BD is g bd)(hl:∀i∈is,σ.length<=i)
  (st1:aW H00 Hb σ ρ1) (hp:∀q,pa=some q->Hb q.1=some q.2/\H00 q.1=none/\¬aV σ ρ1 q.1) (jw:JWa J H00 pa ds) (hsz:ds.length<=Dm.SZ) (e2:Dm.nX bd t el ds (ρ1++fj own .un) []=some (ys,ρ2))
  (k:∀v H0' H',ESt σ ρ1 H00 Hb (ρ2.take ρ1.length) H0' H'->qx Hb H0' H' σ (ρ2.take ρ1.length) v (.new (.lst ys))->(∀q,pa=some q->H' q.1=some q.2/\H0' q.1=none)->Q v H') (D:Addr) (hD:Hb D=none) :
  ∃W:Nat->Nat->St->Hp->Prop,(∃m,W 0 m (σ++fj own none) (upd Hb D (.lst [])))/\∀i m σ' H',W i m σ' H' ->
  (J.stop i H'∧Q (.ref D) H')∨(J.go i H'∧∀ x H2,J.yld i H' x H2→g x σ' H2 fun σ2 H3=>tDT t σ2 H3 fun b H4=>if b=true
   then tD el σ2 H4 fun y H5=>∃Mc,H5 D=some (.lst Mc)/\Mc.length<sizeLine/\∃m',m'<m/\W (i+1) m' σ2 (upd H5 D (.lst (Mc++[y])))
   else ∃m',m'<m/\W (i+1) m' σ2 H4):=by
 have hpD:∀q,pa=some q->q.1≠D:=fun q e z=>by have:=(hp q e).1;rw[z,hD]at this;cases this
 have noD:¬aV σ ρ1 D:=st1.nZ hD;refine ⟨fun i m σ' H'=>∃ (H0c:Hp) (ρc:Dm.Env) (FW:List Dat) (Dg:List V),aW H0c H' σ' ρc∧bg H00 H0c∧m=ds.length-i∧i≤ds.length∧Dm.nX bd t el (ds.drop i) ρc FW=some (ys,ρ2) ∧
  H' D=some (.lst Dg)/\bz H0c Dg FW/\H0c D=none/\FW.length<=i/\Stp (aV σ ρ1) H00 Hb H0c H'/\(∀j,j<σ.length->σ'[j]?=σ[j]?)/\(∀a,aV σ' ρc a->aV σ ρ1 a)/\(∀j,Def ρ1 j->Def ρc j)/\(∀q,pa=some q->H' q.1=some q.2/\H0c q.1=none/\¬aV σ' ρc q.1),
  ⟨ds.length,H00,ρ1++fj own .un,[],[],(st1.aside (st1.same.free hD) noD).ext own,bg.refl _,by simp,U6 _,by simpa using e2,aL,.nil,st1.same.free hD,U6 _,(Stp.refl _ _ _).aside hD,
   fun j hj=>Um hj,fun a z=>Aa st1 z,fun j z=>trivial,fun q e=>⟨by rw[aJ (hpD q e)];exact(hp q e).1,(hp q e).2.1,fun z=>(hp q e).2.2 (Aa st1 z)⟩⟩,?_⟩
 rintro i m σ' H' ⟨H0c,ρc,FW,Dg,sc,s00,rfl,hi,ec,hDl,ra,n0,hal,sp,hσ,ho,hdf,hpc⟩;have nOc:¬aV σ' ρc D:=fun z=>noD (ho D z);obtain⟨js,jg⟩:=jw H0c H' s00 sc.same fun q e=>(hpc q e).1;by_cases RO:i<ds.length
 ·have hd:ds[i]?=some ds[i]:=by simp[RO]
  obtain⟨g1,g2⟩:=jg i ds[i] hd;rw[VD RO]at ec;unfold Dm.nX at ec;refine .inr ⟨g1,fun y H2 yy=>?_⟩;obtain⟨H0',gr,rx⟩:=g2 y H2 yy;split at ec
  ·cases ec
  rename_i ρ3 e3;have t2:=ESt.grow sc gr;obtain⟨hD2,n02,no2⟩:=t2.wj hDl n0 nOc;have hp2:=fun q e=>t2.wj (hpc q e).1 (hpc q e).2.1 (hpc q e).2.2;refine hb H0' H2 σ' ρc ρ3 y ds[i] _ t2.st rx e3 fun σ3 st3 o3 k3 d3 _=>?_;have no3:¬aV σ3 ρ3 D:=fun z=>no2 (o3 D z);have po3:∀q,pa=some q->¬aV σ3 ρ3 q.1:=fun q e z=>(hp2 q e).2.2 (o3 q.1 z);have hσ3:∀j,j<σ.length->σ3[j]?=σ[j]?:=fun j hj=>(k3 j fun z=>Wm.mpr (hl j z) hj).trans (hσ j hj);have ho3:∀a,aV σ3 ρ3 a->aV σ ρ1 a:=fun a z=>ho a (o3 a z);have QS:∀j,Def ρ1 j->Def ρ3 j:=fun j z=>d3 j (hdf j z);have sp3:Stp (aV σ ρ1) H00 Hb H0' H2:=sp.trans t2.stp fun a z=>.inl (ho a z);have ra3:=ra.mono gr.s0;have s3:bg H00 H0':=s00.trans gr.s0;split at ec
  ·cases ec
  ·rename_i ρ4 e4;refine⟨H0',ρ3,false,ρ4,st3,e4,fun qP H'' t4=>?_⟩;dsimp only;rw[if_neg UZ];obtain⟨hD4,n04,no4⟩:=t4.wj hD2 n02 no3;have hp4:=fun q e=>t4.wj (hp2 q e).1 (hp2 q e).2.1 (po3 q e);exact⟨ds.length-(i+1),by lia,qP,ρ4,FW,Dg,t4.st,s3.trans t4.stp.s0,rfl,RO,ec,hD4,ra3.mono t4.stp.s0,n04,Nat.le_succ_of_le hal,sp3.trans t4.stp fun a z=>.inl (ho3 a z),hσ3,fun a z=>ho3 a (t4.own a z),fun j z=>t4.dfn j (QS j z),hp4⟩
  ·rename_i ρ4 e4;refine⟨H0',ρ3,true,ρ4,st3,e4,fun qP H'' t4=>?_⟩;dsimp only;rw[if_pos rfl];obtain⟨hD4,n04,no4⟩:=t4.wj hD2 n02 no3;have hp4:=fun q e=>t4.wj (hp2 q e).1 (hp2 q e).2.1 (po3 q e);split at ec
   ·cases ec
   rename_i x5 ρ5 e5;split at ec
   ·cases ec
   rename_i y6 ρ6 e6;refine⟨qP,ρ4,x5,ρ5,t4.st,e5,fun v H5 Hc t5 r5=>?_⟩;obtain⟨H6,t6,b6,r6,_,_⟩:=take1 t5 (bg.refl _) r5 e6;obtain⟨hD6,n06,no6⟩:=t6.wj hD4 n04 no4;have hp6:=fun q e=>t6.wj (hp4 q e).1 (hp4 q e).2.1 (hp4 q e).2.2;refine⟨Dg,hD6,?_,ds.length-(i+1),by lia,H6,ρ6,FW++[y6],Dg++[v],t6.st.aside n06 no6,(s3.trans t4.stp.s0).trans t6.stp.s0,rfl,RO,ec,aL,?_,n06,?_,?_,hσ3,fun a z=>ho3 a (t4.own a (t6.own a z)),fun j z=>t6.dfn j (t4.dfn j (QS j z)),fun q e=>⟨by rw[aJ (hpD q e)];exact(hp6 q e).1,(hp6 q e).2.1,(hp6 q e).2.2⟩⟩
   ·rw[ra.length];unfold Dm.SZ at hsz;exact Nat.lt_of_le_of_lt (Nat.le_trans hal (Nat.le_trans (Xi RO) hsz)) (by decide)
   ·exact((ra3.mono t4.stp.s0).mono t6.stp.s0).append (.cons r6 .nil)
   ·rw[UO,List.length_singleton];lia
   ·exact((sp3.trans t4.stp fun a z=>.inl (ho3 a z)).trans t6.stp fun a z=>.inl (ho3 a (t4.own a z))).aside hD
 ·have e':i=ds.length:=by lia
  subst e';rw[List.drop_length]at ec;cases ec;refine .inl ⟨js _ (Nat.le_refl _),k _ H0c H' ?_ ?_ fun q e=>⟨(hpc q e).1,(hpc q e).2.1⟩⟩
  ·have RM:σ.length<=ρ2.length:=by
    rw[<- sc.len];refine Wm.mp fun z=>?_;have q:=hσ σ'.length z;rw[Vg (Nat.le_refl _),Uz z]at q;cases q
   have tk:∀{j:Nat} {c:Dm.Cell},(ρ2.take ρ1.length)[j]?=some c->j<σ.length/\ρ2[j]?=some c:=fun {j c} h=>by
    have hj:j<ρ1.length:=by
     have:=(UT.mp h).1;rw[Vn]at this
     lia
    rw[Wc hj]at h;exact⟨by rw[st1.len];exact hj,h⟩
   have own':∀a,aV σ (ρ2.take ρ1.length) a->aV σ' ρ2 a:=fun a ⟨j,d,h1,h2⟩=>by obtain⟨hj,h1⟩:=tk h1;exact⟨j,d,h1,(hσ j hj).trans h2⟩
   refine⟨⟨sc.same,?_,fun j d h=>?_,fun j d h=>?_,fun j j' d d' a h1 h2 h3 h4=>?_⟩,sp,fun a z=>ho a (own' a z),fun j z=>?_⟩
   ·rw[Vn,<- st1.len];lia
   ·obtain⟨hj,h⟩:=tk h;obtain⟨v,q,r⟩:=sc.sh j d h;exact⟨v,(hσ j hj).symm.trans q,r⟩
   ·obtain⟨hj,h⟩:=tk h;obtain⟨v,q,r⟩:=sc.ow j d h;exact⟨v,(hσ j hj).symm.trans q,r⟩
   ·obtain⟨hj,h1⟩:=tk h1;obtain⟨hj',h2⟩:=tk h2;exact sc.dis j j' d d' a h1 h2 ((hσ j hj).trans h3) ((hσ j' hj').trans h4)
   ·trivial
  ·refine⟨D,rfl,hD,fun⟨j,d,h1,h2⟩=>?_,n0,Dg,hDl,ra⟩;have hj:j<ρ1.length:=by
    have:=(UT.mp h1).1;rw[Vn]at this
    lia
   rw[Wc hj]at h1;exact nOc ⟨j,d,h1,(hσ j (by rw[st1.len];exact hj)).trans h2⟩
theorem HS{own:Nat}{el:FE}(hb:BD is g bd)(hl:∀i∈is,σ.length<=i)(h:tD (Dm.nF fi own bd t el) σ H Q) :
  tLC (tDI fi) own g (tDT t) (tD el) σ H Q:=by
 obtain⟨H0,ρ,x,ρ',st,e,k⟩:=h;unfold Dm.nF at e;split at e
 ·cases e
 rename_i ds ρ1 e1;split at e
 case isFalse=>cases e
 rename_i hsz;split at e
 ·cases e
 rename_i ys ρ2 e2;cases e;refine⟨H0,ρ,ds,ρ1,st,e1,fun J H00 Hb t1 jw D hD=>BP (pa:=none) hb hl t1.st (fun q e=>by cases e) (fun H0 H s0 s1 _=>jw H0 H s0 s1) hsz e2 (fun v H0' H' t2 r2 _=>k v H0' H' (t1.trans t2) (r2.early fun a n=>t1.stp.gone n)) D hD⟩
theorem Dh{n m:Nat}{H:Hp}(h:spD (Dm.fn n m body) vs H Q E):vs.length=n:=by
 obtain⟨H0,ds,z,s,rs,e,k⟩:=h;unfold Dm.fn at e;split at e
 ·rename_i hl;rw[rs.length];exact hl
 ·cases e
theorem QT{N:List Str}{n m:Nat}(hm:N.length=n+m)(h:spD (Dm.fn n m body) vs H Q E) :
  tDS body { nx:=fun _ H'=>Q .non H',rt:=Q } (start N vs) H:=by
 have hvn:=Dh h;obtain⟨H0,ds,z,s,rs,e,k⟩:=h;have hl:=rs.length;have no:∀a,¬aV (start N vs) (ds.map Dm.Cell.sh++fj m .un) a:=fun a ⟨i,d,h1,_⟩=>by
  by_cases hi:i<ds.length
  ·rw[Um (by simpa using hi),UX]at h1;cases q:ds[i]? with
   |none=>rw[q]at h1;cases h1
   |some y=>rw[q]at h1;cases h1
  ·rw[UI (by simpa using hi),Vh]at h1;split at h1<;>cases h1
 have st:aW H0 H (start N vs) (ds.map Dm.Cell.sh++fj m .un):=by
  refine⟨s,?_,fun i d h=>?_,fun i d h=>?_,fun i j d e a h1 h2 _ _=>?_⟩
  ·unfold L2.start;simp only[UO,Ud,Wq]
   lia
  ·have hi:i<ds.length:=by
    by_cases hi:i<ds.length
    ·exact hi
    ·rw[UI (by simpa using hi),Vh]at h;split at h<;>cases h
   rw[Um (by simpa using hi),UX]at h;cases q:ds[i]? with
   |none=>rw[q]at h;cases h
   |some y=>rw[q]at h;cases h;obtain⟨v,hv,r⟩:=rs.get q;refine⟨v,?_,r⟩;unfold L2.start;rw[Um (by simpa [hl] using hi),UX,hv];rfl
  ·by_cases hi:i<ds.length
   ·rw[Um (by simpa using hi),UX]at h;cases q:ds[i]? with
    |none=>rw[q]at h;cases h
    |some y=>rw[q]at h;cases h
   ·rw[UI (by simpa using hi),Vh]at h;split at h<;>cases h
  ·by_cases hi:i<ds.length
   ·rw[Um (by simpa using hi),UX]at h1;cases q:ds[i]? with
    |none=>rw[q]at h1;cases h1
    |some y=>rw[q]at h1;cases h1
   ·rw[UI (by simpa using hi),Vh]at h1;split at h1<;>cases h1
 have gr:∀{H0' H'},Stp (aV (start N vs) (ds.map Dm.Cell.sh++fj m .un)) H0 H H0' H'->bg H0' H'->bA H0 H H0' H':=fun {H0' H'} t ss=>⟨t.s0,fun a o e=>t.s1 a o e (no a),fun a o e=>(t.s2 a o e).imp id fun q=>q.elim id fun z=>absurd z (no a),ss⟩
 unfold Dm.fn at e;rw[if_pos (by rw[<- hl];exact hvn)]at e;split at e
 ·rename_i r ρ' e1;cases e;refine⟨H0,_,_,st,e1,fun σ' v H0' H' t r _=>k v H0' H' (gr t.stp t.st.same) ?_⟩;cases z with
  |val d=>exact r
  |new d=>obtain⟨a,e,n,n0,w⟩:=r;exact⟨a,e,n.elim id fun z=>absurd z (no a),n0,w⟩
 ·rename_i ρ' e1;cases e;exact⟨H0,_,_,st,e1,fun σ' H0' H' t=>k _ H0' H' (gr t.stp t.st.same) .non⟩
 ·cases e
end
end
open PySem PySem.Spec PyProof.Rows L2
noncomputable def eX(X:Cx)(nm:List Str)(scope:Scope)(own:List Str)(cl:List (Str×Addr))(C:Addr)(s:Shared)(H:Hp)(fp:List Addr):Cx where
 prog:=X.prog
 w:=X.w
 K:=X.K
 mg:=X.mg
 base:=X.base
 A:=X.A
 N:=nm++own
 s₀:=s
 H₀:=H
 env:=compEnvC scope cl C X.env
 outer:=X.stack
 stack:=X.stack
 ex:=fp
 fn:=fun _=>false
 calm:=X.calm
 pn:=[]
 xe:=fun _ _=>False
def PTs(X:Cx)(ZH:List Expr)(t:TT):Prop:=
 ∀(Ju:List (Addr×Obj)) (s:Shared) (σ:L2.St) (H:Hp) (Q:Bool->Hp->Prop),Inv X Ju σ H s->t σ H Q ->
  wpAny (model X.prog X.w) X.A (forIn ZH true fun c r=>if r=true then do let ok <- isTrue c X.env (eval c X.env);pure (VE ok) else pure (VE r)) (TP X Ju σ Q) X.xe s
def S8:TT:=fun _ H Q=>Q true H
theorem KN{X:Cx}:PTs X [] S8:=fun Ju s σ H Q I h=>wpAny_tests_nil ⟨H,I,h⟩
theorem lg(env:Env):∀(names:List (Str×NameKind)) (cs:List (Str×Addr)),(∀y∈names,y.2=.free->∃c,env.cells.lookup y.1=some c) ->
  ∃cl,(forIn names cs fun(x:Str×NameKind) (r:List (Str×Addr))=>(if (x.2 == NameKind.free)=true then do let c <- cellOf env x.1;pure (VE ((x.1,c)::r)) else pure (VE r):Sem (ForInStep (List (Str×Addr)))))=pure cl /\
   (∀x c,cl.lookup x=some c->env.cells.lookup x=some c\/cs.lookup x=some c)/\(∀y∈names,y.2=.free->∃c,cl.lookup y.1=some c)/\(∀x c,cs.lookup x=some c->∃c',cl.lookup x=some c')
 |[],cs,_=>⟨cs,rfl,fun _ _ h=>.inr h,fun _ h=>(nomatch h),fun _ c h=>⟨c,h⟩⟩
 |(n,k)::r,cs,h=>by
  have hr:∀y∈r,y.2=.free->∃c,env.cells.lookup y.1=some c:=fun y hy=>h y (Ue _ hy);by_cases hk:k=.free
  ·subst hk;obtain⟨c,hc⟩:=h (n,.free) Uj rfl;obtain⟨cl,e,h1,h2,h3⟩:=lg env r ((n,c)::cs) hr;refine⟨cl,?_,fun x c' q=>?_,fun y hy hf=>?_,fun x c' q=>?_⟩
   ·rw[List.forIn_cons];have e1:cellOf env n=pure c:=by unfold cellOf;rw[hc]
    simp only[beq_self_eq_true,if_true,e1,pure_bind];exact e
   ·rcases h1 x c' q with z | z
    ·exact .inl z
    ·rw[Vc]at z;cases hx:x == n with
     |true=>
      rw[hx]at z;have:x=n:=by simpa using hx
      subst this;injection z with z
      subst z;exact .inl hc
     |false=>rw[hx]at z;exact .inr z
   ·rcases Ui.mp hy with rfl | hy
    ·exact h3 n c (by rw[Vc,beq_self_eq_true])
    ·exact h2 y hy hf
   ·by_cases hx:x=n
    ·subst hx;exact h3 x c (by rw[Vc,beq_self_eq_true])
    ·have hx':(x == n)=false:=by simpa using hx
     exact h3 x c' (by rw[Vc,hx'];exact q)
  ·have hb:(k == NameKind.free)=false:=by simpa using hk
   obtain⟨cl,e,h1,h2,h3⟩:=lg env r cs hr;refine⟨cl,?_,h1,fun y hy hf=>?_,h3⟩
   ·rw[List.forIn_cons];simp only[hb,Uu,if_false,pure_bind];exact e
   ·rcases Ui.mp hy with rfl | hy
    ·exact absurd hf hk
    ·exact h2 y hy hf
theorem Di{env:Env}{scope:Scope}(h:∀y∈scope.names,y.2=.free->∃c,env.cells.lookup y.1=some c) :
  ∃cl,closureFor scope env=pure cl/\(∀x c,cl.lookup x=some c->env.cells.lookup x=some c)/\∀y∈scope.names,y.2=.free->∃c,cl.lookup y.1=some c:=by
 obtain⟨cl,e,h1,h2,_⟩:=lg env scope.names [] h;refine⟨cl,?_,fun x c q=>(h1 x c q).elim id fun z=>by simp at z,h2⟩;unfold closureFor;have e':(forIn scope.names ([]:List (Str×Addr)) fun(x:Str×NameKind) (r:List (Str×Addr))=>(if (x.2 == NameKind.free)=true then do let c <- cellOf env x.1;pure (VE ((x.1,c)::r)) else pure (VE r):Sem (ForInStep (List (Str×Addr)))))=pure cl:=e
 first
  |(rw[show (forIn scope.names ([]:List (Str×Addr)) _:Sem (List (Str×Addr)))=pure cl from e'];rfl)
  |(simp only[e'];rfl)
theorem AK{prog:Program}{w:World}{A:Around}{R:Result->Shared->Prop}{s:Shared}{ZL target iter:Expr}{ZH:List Expr}{scope:Scope}{pos:Pos}{it Mc:Value}{env:Env}(I:Nat->Shared->Prop)
  (turn:∀ n s,I n s→wpAny (model prog w) A (pyNext it) (fun r s₁=>match r with
   |none=>R (.ok .next) s₁
   | some v=>wpAny (model prog w) A (letOwnedTupleGo target it v) (fun _ s₁'=>wpAny (model prog w) A (assign target env v) (fun _ s₂=>
     wpAny (model prog w) A (forIn ZH true fun c r=>if r=true then do let ok ← isTrue c env (eval c env);pure (VE ok) else pure (VE r)) (fun ok s₃=>
      if ok=true then wpAny (model prog w) A (eval ZL env) (fun x s₄=>wpAny (model prog w) A (call (.builtin "list.append") [Mc,x]) (fun _ s₅=>∃m,m<n/\I m s₅) (fun _ _=>False) s₄) (fun _ _=>False) s₃
      else ∃m,m<n/\I m s₃) (fun _ _=>False) s₂) (fun _ _=>False) s₁') (fun _ _=>False) s₁) (fun _ _=>False) s)
  (n:Nat) (h:I n s) :
  codeAny (model prog w) A (.compLoop (.ListComp ZL [⟨target,iter,ZH,0⟩] scope pos) 0 it Mc env) R s:=by
 have no:∀{P:Value->Shared->Prop} (x:Value) (s':Shared),False->P x s':=fun _ _ f=>f.elim;refine codeAny_loop rfl I (fun n s hI=>?_) n h;show wpAny _ A ((compTurn (.ListComp ZL [⟨target,iter,ZH,0⟩] scope pos) 0 it Mc env).onRaise (fun x=>do noteFrame x env;theTreesLotGoes x)) _ _ s;refine wpAny_noted ?_;rw[compTurn_list];refine wpAny_bind (wpAny_standAt (wpAny_bind (wpAny_mono (turn n s hI) (fun r s₁ h₁=>?_) no)));cases r with
 |none=>exact wpAny_pure h₁
 |some v=>
  refine wpAny_bind (wpAny_mono h₁ (fun _ s₁' h₁'=>?_) no);refine wpAny_bind (wpAny_mono h₁' (fun _ s₂ h₂=>wpAny_bind (wpAny_mono h₂ (fun ok s₃ h₃=>?_) no)) no);cases ok with
  |false=>exact wpAny_pure ⟨rfl,h₃⟩
  |true=>exact wpAny_bind (wpAny_bind (wpAny_mono h₃ (fun x s₄ h₄=>wpAny_bind (wpAny_mono h₄ (fun _ s₅ h₅=>wpAny_pure (wpAny_pure ⟨rfl,h₅⟩)) no)) no))
theorem kh(env:Env):∀(names:List (Str×NameKind)) (x:Str) (k:NameKind),
  (names.map fun(n,k)=>if (k == NameKind.free&&env.scope.kind == .function&&env.kindOf n == some .cell) then (n,Yg) else (n,k)).lookup x=some k ->
  ∃k0,names.lookup x=some k0/\(k=k0\/(k0=.free/\k=.cell))
 |[],x,k,h=>by simp at h
 |(n,k1)::r,x,k,h=>by
  have h:List.lookup x ((if (k1 == NameKind.free&&env.scope.kind == .function&&env.kindOf n == some .cell)=true then (n,Yg) else (n,k1))::r.map fun(n,k)=>if (k == NameKind.free&&env.scope.kind == .function&&env.kindOf n == some .cell) then (n,Yg) else (n,k))=some k:=h;cases hx:x == n with
  |true=>
   by_cases hc:(k1 == NameKind.free&&env.scope.kind == .function&&env.kindOf n == some .cell)=true
   ·rw[if_pos hc,Vc,hx]at h;injection h with h
    have hk:k1=.free:=by simp only[U9,beq_iff_eq]at hc;exact hc.1.1
    exact⟨k1,by rw[Vc,hx],.inr ⟨hk,h.symm⟩⟩
   ·rw[if_neg hc,Vc,hx]at h;injection h with h
    exact⟨k1,by rw[Vc,hx],.inl h.symm⟩
  |false=>
   by_cases hc:(k1 == NameKind.free&&env.scope.kind == .function&&env.kindOf n == some .cell)=true
   ·rw[if_pos hc,Vc,hx]at h;obtain⟨k0,e,z⟩:=kh env r x k h;exact⟨k0,by rw[Vc,hx];exact e,z⟩
   ·rw[if_neg hc,Vc,hx]at h;obtain⟨k0,e,z⟩:=kh env r x k h;exact⟨k0,by rw[Vc,hx];exact e,z⟩
structure qQ(X:Cx)(nm:List Str)(scope:Scope):Prop where
 kind:scope.kind=.function
 cell:∀y∈scope.names,y.2≠.cell
 names:∀y∈scope.names,y.2=.local->scope.names.lookup y.1=some .local
 free:∀y∈scope.names,y.2=.free->X.env.kindOf y.1=some .cell\/X.env.kindOf y.1=some .free
 apart:∀x∈nm,scope.names.lookup x≠some .local
 len:nm.length=X.N.length
 mask:∀(i:Nat) (x:Str),nm[i]?=some x->X.N[i]?=some x\/scope.names.lookup x=none
section
variable{X:Cx}{nm:List Str}{ZL tg iter:Expr}{ZH:List Expr}{scope:Scope}{pos:Pos}{own:List Str}{wi:TI}{g:TG}{tt:TT}{te:TE}
theorem FY{Ju:List (Addr×Obj)}{s2:Shared}{σ:L2.St}{H2:Hp}{cl:List (Str×Addr)}{it:Addr}{fp:List Addr}{tn:Nat->Heap->Prop}{J:It}{Q:VK}{E:Value->Shared->Prop}{RR:Value->Addr->Result->Shared->Prop}
  (hc:X.calm=true) (S:qQ X nm scope) (AL:∀x c,cl.lookup x=some c->X.env.cells.lookup x=some c) (KP:∀y∈scope.names,y.2=.free->∃c,cl.lookup y.1=some c)
  (hg:∀cl C s H fp,PG (eX X nm scope own cl C s H fp) tg g) (ht:∀cl C s H fp,PTs (eX X nm scope own cl C s H fp) ZH tt) (he:∀cl C s H fp,PE (eX X nm scope own cl C s H fp) ZL te)
  (I2:Inv X Ju σ H2 s2) (T:Turn X.prog X.w X.K tg J fp it tn) (st2:tn 0 s2.heap) (f2:∀b∈fp,BA X Ju H2 b)
  (hR:∀ D,H2 D=none→∃ W:Nat→Nat→L2.St→Hp→Prop,
   (∃m,W 0 m (σ++fj own.length none) (upd H2 D (.lst [])))/\∀i m σ' H',W i m σ' H' ->
    (J.stop i H'∧Q (.ref D) H')∨(J.go i H'∧∀ x H2,J.yld i H' x H2→g x σ' H2 fun σ2 H3=>tt σ2 H3 fun b H4=>if b=true
     then te σ2 H4 fun y H5=>∃Mc,H5 D=some (.lst Mc)/\Mc.length<sizeLine/\∃m',m'<m/\W (i+1) m' σ2 (upd H5 D (.lst (Mc++[y])))
     else ∃m',m'<m/\W (i+1) m' σ2 H4))
  (S9:∀D C H6 s6,Inv X Ju σ H6 s6->H6 C=none->C≠X.env.locals->X.s₀.heap.objs.size<=C->(∀x c,X.env.cells.lookup x=some c->c≠C)->(∀p∈X.pn++Ju,p.1≠C)->(∃m,s6.heap.Ns C m)->Q (.ref D) H6->RR (.ref D) C (.ok .next) s6) :
  wpAny (model X.prog X.w) X.A (newList []) (fun Mc s₃=>wpAny (model X.prog X.w) X.A (newFunctionEnv scope X.env.globals cl [] X.env.qual none .none (some X.env)) (fun cenv s₄=>codeAny (model X.prog X.w) X.A (.compStart (.ListComp ZL [⟨tg,iter,ZH,0⟩] scope pos) 0 (.ref it) Mc { cenv with scope:=relabel scope X.env }) (RR Mc cenv.locals) s₄) E s₃) E s2:=by
 have no:∀{P:Value->Shared->Prop} (x:Value) (s':Shared),False->P x s':=fun _ _ f=>f.elim;refine wpAny_newObj_type (wpAny_newFunctionEnv S.cell (by intro y hy;simp at hy) (fun h₁ hns₁ hsb₁=>?_) S.kind);dsimp only at hns₁ hsb₁ ⊢;have I3:Inv X Ju σ (upd H2 s2.heap.objs.size (.lst [])) { s2 with heap:=s2.heap.push { cls:=.type "list",dict:=none,data:=.seq ([]:List Value).toArray } }:=I2.N8 (t':=s2.toks) (ys:=[]) (its:=[]) .nil (U6 _)
 generalize hG2:s2.heap.push { cls:=.type "list",dict:=none,data:=.seq ([]:List Value).toArray }=G2 at hns₁ hsb₁ I3 ⊢
 have hC:G2.objs.size=s2.heap.objs.size+1:=by rw[<- hG2,Wa]
 have up2:∀b o,s2.heap.get? b=some o->G2.get? b=some o:=fun b o e=>hG2▸Dk _ e;have up3:∀b o,G2.get? b=some o->h₁.get? b=some o:=fun b o e=>hsb₁.extBut b o (UM (Uh e)) (Dk _ e);have S_:G2.get? G2.objs.size=none:=Wz (Nat.le_refl _);have fpo:∀b∈fp,∃o,s2.heap.get? b=some o:=fun b hb=>by obtain⟨o,e,_⟩:=T.obj 0 _ st2 b hb;exact⟨o,e⟩
 have fpC:∀b∈fp,b≠G2.objs.size:=fun b hb=>by obtain⟨o,e⟩:=fpo b hb;exact UM (Uh (up2 b o e))
 have H3C:(upd H2 s2.heap.objs.size (.lst [])) G2.objs.size=none:=I3.hok.fresh (Nat.le_refl _);have fpD:∀b∈fp,b≠s2.heap.objs.size:=fun b hb=>by obtain⟨o,e⟩:=fpo b hb;exact UM (Uh e)
 have QU:∀b∈fp,b∉frs X.stack:=fun b hb z=>by
  rcases Ui.mp (I3.xV b z) with y | y
  ·exact(f2 b hb).2.1 y
  ·exact(f2 b hb).2.2.1 y
 have ok':(eX X nm scope own cl G2.objs.size { s2 with heap:=G2 } (upd H2 s2.heap.objs.size (.lst [])) fp).Ok:=by
  refine ⟨I3.ok.mod,S.kind,I3.ok.glob,I3.ok.blt,Nat.le_refl _,fun x y c e1 e2=>I3.ok.inj x y c (AL x c e1) (AL y c e2),fun x hx=>?_,fun x c z=>(nomatch z),I3.ok.hd,I3.ok.frames,.inl rfl,
   fun b hb=>⟨fpC b hb,fun x c e=>(f2 b hb).2.2.2.2.1 x c (AL x c e)⟩,fun b o e=>I3.bs b o e,Nat.le_trans I3.ok.bsz I3.sz,fun b o e hb=>?_,fun b hb=>QU b hb,I3.stack,I3.AD⟩
  ·have hx:(relabel scope X.env).names.lookup x=some .cell\/(relabel scope X.env).names.lookup x=some .free:=hx;have key:∀k,(relabel scope X.env).names.lookup x=some k->k≠.local->k=.cell\/k=.free->∃c,cl.lookup x=some c:=fun k hk _ hkk=>by
    obtain⟨k0,e0,z⟩:=kh X.env scope.names x k hk;have m0:=PySem.mem_of_lookup e0;have f0:k0=.free:=by
     rcases z with z | z
     ·subst z;rcases hkk with q | q
      ·exact absurd q (S.cell _ m0)
      ·exact q
     ·exact z.1
    exact KP (x,k0) m0 f0
   rcases hx with hx | hx
   ·exact key _ hx (by decide) (.inl rfl)
   ·exact key _ hx (by decide) (.inr rfl)
  ·rcases (f2 b hb).2.2.2.1 with z | z
   ·exact I3.ok.G7 b o e z
   ·exact absurd (UJ (Uh e) (Nat.le_trans I3.ok.bsz z)) (V1 _)
 have stat:∀{H':Hp},(∀b∈fp,H' b=none)->∀b∈fp,BA (eX X nm scope own cl G2.objs.size { s2 with heap:=G2 } (upd H2 s2.heap.objs.size (.lst [])) fp) [] H' b:=fun hn b hb=>⟨hn b hb,fpC b hb,QU b hb,.inl hb,fun x c e=>(f2 b hb).2.2.2.2.1 x c (AL x c e),fun p hp=>(nomatch (show p∈([]:List (Addr×Obj)) from hp))⟩
 have I4:Inv (eX X nm scope own cl G2.objs.size { s2 with heap:=G2 } (upd H2 s2.heap.objs.size (.lst [])) fp) [] (σ++fj own.length none) (upd H2 s2.heap.objs.size (.lst [])) { s2 with heap:=h₁,toks:=s2.toks+([]:List (Str×Value)).length }:=by
  refine⟨ok',rfl,I3.bare,Un.kept up3,⟨_,hns₁,fun i x v e1 e2 e3=>?_⟩,fun x c e=>?_,H3C,fun x c e=>I3.jW x c (AL x c e),fun p hp=>(nomatch (show p∈([]:List (Addr×Obj)) from hp)),I3.hok.kept up3,?_⟩
  ·have e1:(nm++own)[i]?=some x:=e1;have hi:i<σ.length:=by
    by_cases hi:i<σ.length
    ·exact hi
    ·rw[UI (Wm.mp hi),Vh]at e2;split at e2<;>cases e2
   rw[Um hi]at e2;rw[Um (by rw[S.len,<- I3.len];exact hi)]at e1;have key:∀k,(relabel scope X.env).names.lookup x=some k->k=.local\/k=.cell\/k=.free->scope.names.lookup x=some .free/\(k=.cell\/k=.free):=fun k hk hkk=>by
    obtain⟨k0,e0,z⟩:=kh X.env scope.names x k hk;have m0:=PySem.mem_of_lookup e0;have n1:k0≠.local:=fun y=>S.apart x (VO e1) (y▸e0);have n2:k0≠.cell:=S.cell _ m0;rcases z with z | z
    ·subst z;rcases hkk with q | q | q
     ·exact absurd q n1
     ·exact absurd q n2
     ·subst q;exact⟨e0,.inr rfl⟩
    ·obtain⟨z1,z2⟩:=z;subst z1;subst z2;exact⟨e0,.inl rfl⟩
   have hk:∃k,(relabel scope X.env).names.lookup x=some k/\(k=.cell\/k=.free)/\scope.names.lookup x=some .free:=by
    rcases (show (relabel scope X.env).names.lookup x=some .local\/(relabel scope X.env).names.lookup x=some .cell\/(relabel scope X.env).names.lookup x=some .free from e3) with q | q | q
    ·obtain⟨a,b⟩:=key _ q (.inl rfl);exact⟨_,q,b,a⟩
    ·obtain⟨a,b⟩:=key _ q (.inr (.inl rfl));exact⟨_,q,b,a⟩
    ·obtain⟨a,b⟩:=key _ q (.inr (.inr rfl));exact⟨_,q,b,a⟩
   obtain⟨k,hk1,hk2,hk3⟩:=hk;have m0:=PySem.mem_of_lookup hk3;obtain⟨c,hcc⟩:=KP (x,.free) m0 rfl;obtain⟨m,hn,hl⟩:=I3.loc;have hout:=S.free (x,.free) m0 rfl;have Tc:Vis X.env.scope x:=by
    rcases hout with q | q
    ·exact .inr (.inl q)
    ·exact .inr (.inr q)
   have e1':X.N[i]?=some x:=by
    rcases S.mask i x e1 with z | z
    ·exact z
    ·rw[z]at hk3;cases hk3
   obtain⟨u,ru,lk⟩:=hl i x v e1' e2 Tc;refine⟨u,ru,.inr ⟨?_,c,hcc,?_⟩⟩
   ·rcases hk2 with q | q
    ·subst q;exact .inl hk1
    ·subst q;exact .inr hk1
   ·rcases lk with⟨q,_⟩ | ⟨_,c',e',z⟩
    ·rcases hout with y | y
     ·rw[q]at y;cases y
     ·rw[q]at y;cases y
    ·rw[AL x c hcc]at e';cases e';obtain⟨o,ho,hd⟩:=z;exact⟨o,up3 c o ho,hd⟩
  ·obtain⟨v,o,ho,hd⟩:=I3.cell x c (AL x c e);exact⟨v,o,up3 c o ho,hd⟩
  ·show (σ++fj own.length none).length=(nm++own).length;rw[UO,UO,Wq,I3.len,S.len]
 obtain⟨W,⟨m0,w0⟩,turn⟩:=hR s2.heap.objs.size I2.fresh;have st4:tn 0 h₁:=T.keep 0 _ _ st2 fun b hb o e=>up3 b o (up2 b o e);have Td:∀b∈fp,(upd H2 s2.heap.objs.size (.lst [])) b=none:=fun b hb=>by rw[aJ (fpD b hb)];exact(f2 b hb).1
 have loop:∀s₃:Shared,s₃={ s2 with heap:=h₁,toks:=s2.toks+([]:List (Str×Value)).length } ->
   codeAny (model X.prog X.w) X.A (.compLoop (.ListComp ZL [⟨tg,iter,ZH,0⟩] scope pos) 0 (.ref it) (.ref s2.heap.objs.size) (compEnvC scope cl G2.objs.size X.env))
    (RR (.ref s2.heap.objs.size) G2.objs.size) s₃:=by
  rintro s₃ rfl;refine AK (fun n s'=>∃i σ' H',Inv (eX X nm scope own cl G2.objs.size { s2 with heap:=G2 } (upd H2 s2.heap.objs.size (.lst [])) fp) [] σ' H' s'/\tn i s'.heap/\(∀b∈fp,H' b=none)/\W i n σ' H') ?_ m0
   ⟨0,_,_,I4,st4,Td,w0⟩
  rintro n s5 ⟨i,σ5,H5,I5,st5,fr5,w5⟩;rcases turn i n σ5 H5 w5 with⟨stop,q⟩ | ⟨go,step⟩
  ·refine wpAny_mono (T.done (eX X nm scope own cl G2.objs.size { s2 with heap:=G2 } (upd H2 s2.heap.objs.size (.lst [])) fp) rfl rfl rfl hc i [] s5 σ5 H5 (fun _ _=>False) I5 (stat fr5) st5 stop) (fun r s6 hr6=>?_) no;obtain⟨hr,I6⟩:=hr6;subst hr;have I7:Inv X Ju σ H5 s6:=I3.P_ (ch:=fp) I6.os I6.base I6.hok I6.bare fun b hb=>⟨(f2 b hb).2.2.2.1,(f2 b hb).2.1,(f2 b hb).2.2.2.2.1,(f2 b hb).2.2.2.2.2⟩;refine S9 _ _ H5 s6 I7 I6.free (Xj (show X.env.locals<G2.objs.size from I3.lt)) I3.sz (fun x c e=>?_) (fun p hp=>?_) (let ⟨m,hn,_⟩:=I6.loc;⟨m,hn⟩) q
   ·obtain⟨v,z⟩:=I3.cell x c e;exact UM z.lt
   ·exact UM (Uh (I3.pin p hp).1)
  ·refine wpAny_mono (T.item (eX X nm scope own cl G2.objs.size { s2 with heap:=G2 } (upd H2 s2.heap.objs.size (.lst [])) fp) rfl rfl rfl hc i [] s5 σ5 H5 (fun _ _=>False) I5 (stat fr5) st5 go) (fun r s6 hr6=>?_) no;obtain⟨u,hr,h6⟩:=hr6;subst hr;refine wpAny_mono h6 (fun _ s7 h7=>?_) no;obtain⟨x,H7,I7,r7,y7,st7,fr7⟩:=h7;have I7':=I7.pinned (stat fr7) (T.obj _ _ st7);have again:∀{s9:Shared} {σ9:L2.St} {H9:Hp} {m':Nat},m'<n->Inv (eX X nm scope own cl G2.objs.size { s2 with heap:=G2 } (upd H2 s2.heap.objs.size (.lst [])) fp) ([]++xY fp s7.heap) σ9 H9 s9->W (i+1) m' σ9 H9 ->
     ∃m,m<n/\∃i σ' H',Inv (eX X nm scope own cl G2.objs.size { s2 with heap:=G2 } (upd H2 s2.heap.objs.size (.lst [])) fp) [] σ' H' s9/\tn i s9.heap/\(∀b∈fp,H' b=none)/\W i m σ' H':=fun {s9 σ9 H9 m'} hm I9 w9=>by
    refine⟨m',hm,i+1,σ9,H9,I9.tG,T.keep _ _ _ st7 fun b hb o e=>(I9.pin (b,o) (UD _ (UD _ (mD hb e)))).1,fun b hb=>?_,w9⟩;obtain⟨o,e,d⟩:=T.obj _ _ st7 b hb;exact(I9.pin (b,o) (UD _ (UD _ (mD hb e)))).2.1
   refine wpAny_mono (hg cl G2.objs.size _ _ fp _ s7 σ5 H7 x u _ I7' r7 (step x H7 y7)) (fun _ s8 h8=>?_) no;obtain⟨σ8,H8,I8,q8⟩:=h8;refine wpAny_mono (ht cl G2.objs.size _ _ fp _ s8 σ8 H8 _ I8 q8) (fun b s9 h9=>?_) no;obtain⟨H9,I9,q9⟩:=h9;cases b with
   |false=>rw[if_neg UZ]at q9 ⊢;obtain⟨m',hm,w9⟩:=q9;exact again hm I9 w9
   |true=>rw[if_pos rfl]at q9 ⊢;refine wpAny_mono (he cl G2.objs.size _ _ fp _ s9 σ8 H9 _ I9 q9) (fun y s10 h10=>?_) no;obtain⟨yv,H10,I10,r10,Mc,hacc,RM,m',hm,w10⟩:=h10;refine wpAny_mono (z9 (X:=eX X nm scope own cl G2.objs.size { s2 with heap:=G2 } (upd H2 s2.heap.objs.size (.lst [])) fp) _ s10 σ8 H10 (.ref s2.heap.objs.size) [yv] (.ref s2.heap.objs.size) [y] (fun _ H'=>H'=upd H10 s2.heap.objs.size (.lst (Mc++[yv]))) I10 rfl (.cons r10 .nil) ⟨_,Mc,yv,rfl,rfl,hacc,RM,rfl⟩) (fun _ s11 h11=>?_) no;obtain⟨_,H11,I11,_,e11⟩:=h11;subst e11;exact again hm I11 w10
 exact codeAny_compStart_list (loop _ rfl) (T.self _ 0 _ _ _ st4 (loop _ rfl))
theorem EC(hc:X.calm=true)(S:qQ X nm scope)(hi:PI X tg iter wi)
  (hg:∀cl C s H fp,PG (eX X nm scope own cl C s H fp) tg g) (ht:∀cl C s H fp,PTs (eX X nm scope own cl C s H fp) ZH tt) (he:∀cl C s H fp,PE (eX X nm scope own cl C s H fp) ZL te)
  (hs:∀x,foldedSetIterable iter X.env x=pure x:=by intro _;rfl):PE X (.ListComp ZL [⟨tg,iter,ZH,0⟩] scope pos) (tLC wi own.length g tt te):=by
 intro Ju s σ H Q I h;obtain⟨cl,hclos,AL,KP⟩:=Di (env:=X.env) (scope:=scope) fun y hy hf=>I.ok.has y.1 (S.free y hy hf);rw[eval_ListComp];refine wpAny_comprehension_free (use:=none) rfl hs hclos S.kind S.names (thn (hi Ju s σ H _ I h) fun v s1 h1=>thn h1 fun itv s2 h2=>?_);obtain⟨it,fp,tn,J,H2,e,I2,T,st2,f2,hR⟩:=h2;subst e;refine FY (Q:=Q) (RR:=fun Mc C=>compPost (model X.prog X.w) X.A X.xe none (EP X Ju σ Q) Mc C) hc S AL KP hg ht he I2 T st2 f2 hR ?_;intro D C H6 s6 I6 hCn hCL hCs hCc hCp hns q;obtain⟨m,hn⟩:=hns;refine⟨m,hn,fun h' hs'=>⟨.ref D,H6,I6.turned (t':=s6.toks) (fun b o hb e=>(hs'.2 b hb).trans e) hCn hCL (.inr hCs) hCc hCp,rfl,q⟩⟩
end
mutual
noncomputable def toPy:Dat->PyData
 |.non=>.none
 |.bl b=>.bool b
 |.int i=>.int i
 |.str s=>.str ⟨s.toArray⟩
 |.tup xs=>.tuple (jc xs)
 |.lst xs=>.list (jc xs)
 |.dct _ _=>.dict []
 |.dcp _ _=>.dict []
 |.exc _=>.dict []
 |.cz _ _=>.dict []
 |.fn _=>.dict []
noncomputable def jc:List Dat->List PyData
 |[]=>[]
 |x::xs=>toPy x::jc xs
end
mutual
theorem tO:∀a b:Dat,Vx (toPy a) (toPy b)=Dm.eqD a b
 |.non,b=>by cases b<;>simp[toPy,Vx,Dm.eqD]
 |.bl x,b=>by cases b<;>simp[toPy,Vx,Dm.eqD,Dm.b2i]
 |.int x,b=>by cases b<;>simp[toPy,Vx,Dm.eqD,Dm.b2i]
 |.str x,b=>by
  cases b with
  |str y=>
   simp only[toPy,Vx,Dm.eqD];rw[XZ];simp only[beq_iff_eq];constructor
   ·intro h;have h:=congrArg (fun s:Str=>s.cps.toList) h
    simpa using h
   ·rintro rfl;rfl
  |_=>simp[toPy,Vx,Dm.eqD]
 |.tup xs,b=>by
  cases b with
  |tup ys=>simp only[toPy,Vx,Dm.eqD];exact uY xs ys
  |_=>simp[toPy,Vx,Dm.eqD]
 |.lst xs,b=>by
  cases b with
  |lst ys=>simp only[toPy,Vx,Dm.eqD];exact uY xs ys
  |_=>simp[toPy,Vx,Dm.eqD]
 |.dct ks vs,b=>by cases b<;>simp[toPy,Vx,Dm.eqD]
 |.dcp ks vs,b=>by cases b<;>simp[toPy,Vx,Dm.eqD]
 |.exc C,b=>by cases b<;>simp[toPy,Vx,Dm.eqD]
 |.cz C v,b=>by cases b<;>simp[toPy,Vx,Dm.eqD]
 |.fn C,b=>by cases b<;>simp[toPy,Vx,Dm.eqD]
theorem uY:∀a b:List Dat,XI (jc a) (jc b)=Dm.Dd a b
 |[],b=>by cases b<;>simp[jc,XI,Dm.Dd]
 |x::xs,b=>by
  cases b with
  |nil=>simp[jc,XI,Dm.Dd]
  |cons y ys=>simp only[jc,XI,Dm.Dd];rw[tO x y,uY xs ys]
end
theorem HU{s:List Nat}(h:(s.all fun c=>decide (c<128))=true):PyData.strOk ⟨s.toArray⟩=true:=by unfold PyData.strOk;rw[Array.all_eq_true'];intro c hc;have h1:=Vd.mp h c (by simpa using hc);have h2:c<128:=of_decide_eq_true h1;exact decide_eq_true (by lia)
theorem kO{P:Program}{w:World}{H:Hp}{h:Heap}(ok:HOk P w H h):∀(n:Nat),
  (∀(v:V) (d:Dat) (u:Value),Rep H v d->RelV v u->Dm.okD n d=true->∃as,Reads h u (toPy d) as/\(toPy d).canLay0=true/\(toPy d).depth<=n) /\
  (∀(vs:List V) (ds:List Dat) (us:List Value),bz H vs ds->Vals vs us->ds.all (Dm.okD n)=true->∃as,ReadsAll h us (jc ds) as/\XM (jc ds)=true/\WK (jc ds)<=n):=by
 intro n
 induction n with
 |zero=>
  have one:∀(v:V) (d:Dat) (u:Value),Rep H v d->RelV v u->Dm.okD 0 d=true->∃as,Reads h u (toPy d) as/\(toPy d).canLay0=true/\(toPy d).depth<=0:=by
   intro v d u r rv k;cases r with
   |non=>cases rv;exact⟨_,.none,rfl,Nat.le_refl _⟩
   |bl b=>cases rv;exact⟨_,.bool b,rfl,Nat.le_refl _⟩
   |int i=>obtain⟨t,rfl⟩:=rv;exact⟨_,.int i t,rfl,Nat.le_refl _⟩
   |str s=>obtain⟨t,rfl⟩:=rv;exact⟨_,.str _ t,HU k,Nat.le_refl _⟩
   |tup _ _=>cases k
   |lst _ _=>cases k
   |dct _ _ _=>cases k
   |dcp _ _ _=>cases k
   |exc _=>cases k
   |cz _ _=>cases k
   |fn _=>cases k
  refine⟨one,fun vs ds=>?_⟩
  induction ds generalizing vs with
  |nil=>intro us r rv _;cases r;cases rv;exact⟨_,.nil,rfl,Nat.le_refl _⟩
  |cons d ds ih=>
   intro us r rv k;cases r with
   |cons r rs=>
    cases rv with
    |cons q qs=>rw[List.all_cons,U9]at k;obtain⟨a1,h1,h2,h3⟩:=one _ _ _ r q k.1;obtain⟨a2,h4,h5,h6⟩:=ih _ _ rs qs k.2;exact⟨_,.cons h1 h4,by simp[jc,XM,h2,h5],by simp only[jc,WK];lia⟩
 |succ n ih=>
  have one:∀(v:V) (d:Dat) (u:Value),Rep H v d->RelV v u->Dm.okD (n+1) d=true->∃as,Reads h u (toPy d) as/\(toPy d).canLay0=true/\(toPy d).depth<=n+1:=by
   intro v d u r rv k;cases r with
   |non=>cases rv;exact⟨_,.none,rfl,U6 _⟩
   |bl b=>cases rv;exact⟨_,.bool b,rfl,U6 _⟩
   |int i=>obtain⟨t,rfl⟩:=rv;exact⟨_,.int i t,rfl,U6 _⟩
   |str s=>obtain⟨t,rfl⟩:=rv;exact⟨_,.str _ t,HU k,U6 _⟩
   |tup q rs=>cases rv;obtain⟨z,its,vr,ob,e,hc,m,hd⟩:=ok _ _ q;obtain⟨as,h1,h2,h3⟩:=ih.2 _ _ _ rs vr k;exact⟨_,.tuple e hc hd h1,h2,by simp only[toPy,PyData.depth];lia⟩
   |lst q rs=>cases rv;obtain⟨z,its,m,vr,e⟩:=q.ok ok;obtain⟨as,h1,h2,h3⟩:=ih.2 _ _ _ rs vr k;exact⟨_,.list e rfl rfl h1,h2,by simp only[toPy,PyData.depth];lia⟩
   |dct _ _ _=>cases k
   |dcp _ _ _=>cases k
   |exc _=>cases k
   |cz _ _=>cases k
   |fn _=>cases k
  refine⟨one,fun vs ds=>?_⟩
  induction ds generalizing vs with
  |nil=>intro us r rv _;cases r;cases rv;exact⟨_,.nil,rfl,U6 _⟩
  |cons d ds ih=>
   intro us r rv k;cases r with
   |cons r rs=>
    cases rv with
    |cons q qs=>rw[List.all_cons,U9]at k;obtain⟨a1,h1,h2,h3⟩:=one _ _ _ r q k.1;obtain⟨a2,h4,h5,h6⟩:=ih _ _ rs qs k.2;exact⟨_,.cons h1 h4,by simp[jc,XM,h2,h5],by simp only[jc,WK];lia⟩
theorem xZ.full{H0 H:Hp}(s:bg H0 H){v:V}{d:Dat}(r:xZ H0 H v d):Rep H v d:=by
 rcases r with r | ⟨a,rfl,w⟩
 ·exact r.mono s
 ·cases d with
  |lst ds=>obtain⟨xs,q,rs⟩:=w;exact .lst (.inl q) (rs.mono s)
  |dct ks ds=>obtain⟨kvs,q,e,rs⟩:=w;exact .dct q e (rs.mono s)
  |dcp ks ds=>obtain⟨kvs,q,e,rs⟩:=w;exact .dcp q (e.mono s) (rs.mono s)
  |_=>exact UH w
def KQ(neg:Bool):R2:=fun x y H Q=>∃dx dy,Rep H x dx/\Rep H y dy/\Dm.okD 8 dx=true/\Dm.okD 8 dy=true/\Q (.bl (if neg then !Dm.eqD dx dy else Dm.eqD dx dy)) H
section
variable{X:Cx}
theorem HV{k:Nat}(hr:cS k X.A):OpR X (compareOp .Eq) (KQ false):=by intro Ju s σ H x y v u Q I rx ry h;obtain⟨dx,dy,r1,r2,k1,k2,q⟩:=h;obtain⟨as,h1,h2,h3⟩:=(kO I.hok 8).1 x dx v r1 rx k1;obtain⟨bs,h4,h5,h6⟩:=(kO I.hok 8).1 y dy u r2 ry k2;have hu:=hr.units;refine PySem.SeqAt.compareEq_reads h1 h4 h2 h5 (by lia) ?_;rw[tO];exact⟨.bl (Dm.eqD dx dy),H,I,rfl,q⟩
theorem HW{k:Nat}(hr:cS k X.A):OpR X (compareOp .NotEq) (KQ true):=by intro Ju s σ H x y v u Q I rx ry h;obtain⟨dx,dy,r1,r2,k1,k2,q⟩:=h;obtain⟨as,h1,h2,h3⟩:=(kO I.hok 8).1 x dx v r1 rx k1;obtain⟨bs,h4,h5,h6⟩:=(kO I.hok 8).1 y dy u r2 ry k2;have hu:=hr.units;refine PySem.SeqAt.compareNe_reads h1 h4 h2 h5 (by lia) ?_;rw[tO];exact⟨.bl (!Dm.eqD dx dy),H,I,rfl,q⟩
def QV(neg:Bool):R2:=fun x y H Q=>∃dx ds,Rep H x dx/\(Rep H y (.lst ds)\/Rep H y (.tup ds))/\Dm.okD 8 dx=true/\ds.all (Dm.okD 7)=true/\Q (.bl (if neg then !Dm.inD dx ds else Dm.inD dx ds)) H
theorem ya(x:Dat):∀ds:List Dat,((jc ds).any fun y=>Vx y (toPy x))=Dm.inD x ds
 |[]=>rfl
 |d::ds=>by have:=ya x ds;unfold Dm.inD at this ⊢;simp only[jc,List.any_cons,tO];rw[this]
theorem FZ{k:Nat}(hr:cS k X.A):OpR X (compareOp .NotIn) (QV true):=by
 intro Ju s σ H x y v u Q I rx ry h;obtain⟨dx,ds,r1,r2,k1,k2,q⟩:=h;obtain⟨as,h1,h2,h3⟩:=(kO I.hok 8).1 x dx v r1 rx k1;have hu:=hr.units;rcases r2 with r2 | r2
 ·obtain⟨bs,h4,h5,h6⟩:=(kO I.hok 8).1 y (.lst ds) u r2 ry k2;have h6:WK (jc ds)+1<=8:=h6;refine PySem.SeqAt.notIn_list_reads h4 h1 h5 h2 (by lia) ?_;rw[ya];exact⟨.bl (!Dm.inD dx ds),H,I,rfl,q⟩
 ·obtain⟨bs,h4,h5,h6⟩:=(kO I.hok 8).1 y (.tup ds) u r2 ry k2;have h6:WK (jc ds)+1<=8:=h6;refine PySem.SeqAt.notIn_tuple_reads h4 h1 h5 h2 (by lia) ?_;rw[ya];exact⟨.bl (!Dm.inD dx ds),H,I,rfl,q⟩
end
section
variable{ds:List Dat}{H0 H:Hp}{v:V}
theorem bf{i:Int}(r:xZ H0 H v (.int i)):v=.int i:=by
 rcases r with r | ⟨a,_,w⟩
 ·exact Rep.isInt r
 ·exact UH w
theorem ef(s:bg H0 H)(r:xZ H0 H v (.lst ds)):∃a xs,v=.ref a/\Rd H a (.lst xs)/\bz H0 xs ds:=by
 rcases r with r | ⟨a,e,xs,q,rs⟩
 ·cases r with
  |lst q rs=>exact⟨_,_,rfl,bg.rd s q,rs⟩
 ·exact⟨a,xs,e,.inl q,rs⟩
theorem yb(s:bg H0 H)(r:xZ H0 H v (.tup ds)):∃a xs,v=.ref a/\H a=some (.tup xs)/\bz H0 xs ds:=by
 rcases r with r | ⟨a,_,w⟩
 ·cases r with
  |tup q rs=>exact⟨_,_,rfl,s _ _ q,rs⟩
 ·exact UH w
theorem Of:OpD (rI0 fun i j=>.int (i-j)) Dm.dG:=by
 intro H0 H x y dx dy z Q s rx ry e k;unfold Dm.dG at e;split at e
 ·cases e;cases bf rx;cases bf ry;exact⟨_,_,rfl,rfl,k _ H0 H (bA.refl s) (.int _)⟩
 ·cases e
theorem QW:OpD (rI0 fun i j=>.bl (decide (i<j))) Dm.gLt:=by
 intro H0 H x y dx dy z Q s rx ry e k;unfold Dm.gLt at e;split at e
 ·cases e;cases bf rx;cases bf ry;exact⟨_,_,rfl,rfl,k _ H0 H (bA.refl s) (.bl _)⟩
 ·cases e
theorem MT:OpD (rI0 fun i j=>.bl (decide (i<=j))) Dm.gLe:=by
 intro H0 H x y dx dy z Q s rx ry e k;unfold Dm.gLe at e;split at e
 ·cases e;cases bf rx;cases bf ry;exact⟨_,_,rfl,rfl,k _ H0 H (bA.refl s) (.bl _)⟩
 ·cases e
theorem QX:OpD (rI0 fun i j=>.bl (decide (j<i))) Dm.gGt:=by
 intro H0 H x y dx dy z Q s rx ry e k;unfold Dm.gGt at e;split at e
 ·cases e;cases bf rx;cases bf ry;exact⟨_,_,rfl,rfl,k _ H0 H (bA.refl s) (.bl _)⟩
 ·cases e
theorem Og:OpD (rI (fun _ j=>0<j) fun i j=>.int (i % j)) Dm.bu:=by
 intro H0 H x y dx dy z Q s rx ry e k;unfold Dm.bu at e;split at e
 ·split at e
  ·rename_i hj;cases e;cases bf rx;cases bf ry;exact⟨_,_,rfl,rfl,hj,k _ H0 H (bA.refl s) (.int _)⟩
  ·cases e
 ·cases e
theorem Oh:OpD (rI Qk fun i j=>.int (i ^ j.toNat)) Dm.cX:=by
 intro H0 H x y dx dy z Q s rx ry e k;unfold Dm.cX at e;split at e
 ·split at e
  ·rename_i hj;cases e;cases bf rx;cases bf ry;exact⟨_,_,rfl,rfl,⟨hj.1,hj.2.1,Yj hj.2.2 (by decide)⟩,k _ H0 H (bA.refl s) (.int _)⟩
  ·cases e
 ·cases e
end
section
variable{X:Cx}
def MU(i j:Int):Prop:=0<j/\j<Dm.mF
theorem HX:OpR X (binaryOp .FloorDiv) (rI MU fun i j=>.int (i / j)):=opI fun i j _ _ _ _ _ hc q=>by
 have h:j.natAbs.log2<9000:=by
  have h1:j.natAbs<2 ^ 200:=by
   have:=hc.2;unfold Dm.mF at this;have h2:=hc.1;have e:(2:Nat) ^ 200=1606938044258990275541962092341162602522202993782792835301376:=by decide +kernel
   omega
  have h3:j.natAbs≠0:=by have:=hc.1;omega
  have:=(Nat.log2_lt h3).mpr h1;omega
 have e:i.fdiv j=i / j:=Int.fdiv_eq_ediv_of_nonneg i (Int.le_of_lt hc.1);rw[<- e]at q;exact floordiv_int (Int.ne_of_gt hc.1) q (.inl (PyProof.noPylong_of_log2 h))
end
theorem Oi:OpD (rI MU fun i j=>.int (i / j)) Dm.cK:=by
 intro H0 H x y dx dy z Q s rx ry e k;unfold Dm.cK at e;split at e
 ·split at e
  ·rename_i hj;cases e;cases bf rx;cases bf ry;exact⟨_,_,rfl,rfl,hj,k _ H0 H (bA.refl s) (.int _)⟩
  ·cases e
 ·cases e
theorem Oj:UnD (rU fun i=>.int (-i)) Dm.eu:=by
 intro H0 H x dx z Q s rx e k;unfold Dm.eu at e;split at e
 ·cases e;cases bf rx;exact⟨_,rfl,k _ H0 H (bA.refl s) (.int _)⟩
 ·cases e
def HY:R2:=fun x y H Q=>∃l b xs zs,x=.ref l/\y=.ref b/\Rd H l (.lst xs)/\Rd H b (.lst zs)/\xs.length+zs.length<=sizeLine/\∀p,H p=none->Q (.ref p) (upd H p (.lst (xs++zs)))
def HZ:R2:=fun x y H Q=>∃l k xs,x=.ref l/\y=.int k/\Rd H l (.lst xs)/\-(2 ^ 63)<=k/\k<2 ^ 63/\xs.length*k.toNat<=sizeLine /\
 ∀p,H p=none->Q (.ref p) (upd H p (.lst (fj k.toNat xs).flatten))
section
variable{X:Cx}
theorem KR:OpR X (binaryOp .Add) HY:=by
 intro Ju s σ H x y v u Q I rx ry h;obtain⟨l,b,xs,zs,rfl,rfl,hH,hB,hz,q⟩:=h;cases rx;cases ry;obtain⟨z,its,n,r,e⟩:=hH.ok I.hok;obtain⟨z2,its2,n2,r2,e2⟩:=hB.ok I.hok;have hl:=r.length;have hl2:=r2.length;refine PySem.P.add_list e e2 ?_ (by rw[UE,UE];lia);have ea:its.toArray++its2.toArray=(its++its2).toArray:=by simp
 rw[ea];exact⟨.ref _,_,I.N8 (t':=s.toks) (r.append r2) (by rw[UO];lia),rfl,q _ I.fresh⟩
theorem KS:OpR X (binaryOp .Mult) HZ:=by
 intro Ju s σ H x y v u Q I rx ry h;obtain⟨l,k,xs,rfl,rfl,hH,h1,h2,hz,q⟩:=h;cases rx;obtain⟨t,rfl⟩:=ry;obtain⟨z,its,n,r,e⟩:=hH.ok I.hok;have hl:=r.length;have RM:its.toArray.size*k.toNat<=sizeLine:=by rw[UE,<- hl];exact hz
 have hcap:¬its.toArray.size*k.toNat>(2 ^ 63-1) / 8:=by
  have:(sizeLine:Nat)<=(2 ^ 63-1) / 8:=by decide
  lia
 have hfit:¬(!Builtin.List.listFitsIndex k)=true:=by rw[fitsIndex_both h1 h2];exact UZ
 have QY:¬WN (its.toArray.size*k.toNat)=true:=by rw[HE RM];exact UZ
 have hnew:XO (fun x1 x2=>x1++x2) #[] (fj (if its.toArray.isEmpty=true then 0 else k.toNat) its.toArray)=(fj k.toNat its).flatten.toArray:=by
  have f0:∀m:Nat,XO (fun x1 x2=>x1++x2) #[] (fj m its.toArray)=(fj m its).flatten.toArray:=fun m=>by have:=foldl_rep its m [];rw[Uk]at this;exact this
  rw[f0];cases its with
  |nil=>simp
  |cons a r'=>rw[if_neg (by simp)]
 refine wpAny_binaryOp_repeat_ref (T := "list") (U := "int") (by decide) ⟨_,e,rfl⟩ (fun s'=>typeIs_int s' k t) noFill_list_mul F.fills_int_mul F.slot_int_rmul repeat_list F.slot_int_index.lookup
  (call_meets F.slot_int_rmul (typeIs_int s k t) F.entry_int_rmul (F.args_int_rmul_2 _ _) (int___rmul___int_list k t l its.toArray n)
   ⟨e,rfl,⟨_,e,rfl⟩,call_meets F.slot_list_mul ⟨_,e,rfl⟩ F.entry_list_mul (F.args_list_mul_2 _ _) (AutoListH.list___mul___list_int_3 l its.toArray n k t hfit hcap QY) ⟨e,?_⟩⟩)
 rw[hnew];exact⟨.ref _,_,I.N8 (t':=s.toks) (r.rep k.toNat) (by rw[len_rep,Nat.mul_comm];exact hz),rfl,q _ I.fresh⟩
theorem KU:OpR X (binaryOp .Add) (fun x y H Q=>rI0 (fun i j=>.int (i+j)) x y H Q\/HY x y H Q):=NW.or KR
theorem KW:OpR X (binaryOp .Mult) (fun x y H Q=>rI Hv (fun i j=>.int (i*j)) x y H Q\/HZ x y H Q):=NY.or KS
end
theorem Ol:OpD (fun x y H Q=>rI0 (fun i j=>.int (i+j)) x y H Q\/HY x y H Q) Dm.bh:=by
 intro H0 H x y dx dy z Q s rx ry e k;unfold Dm.bh at e;split at e
 ·cases e;cases bf rx;cases bf ry;exact .inl ⟨_,_,rfl,rfl,k _ H0 H (bA.refl s) (.int _)⟩
 ·split at e
  ·rename_i hz;cases e;obtain⟨a,us,rfl,qa,ra⟩:=ef s rx;obtain⟨b,ws,rfl,qb,rb⟩:=ef s ry;refine .inr ⟨a,b,us,ws,rfl,rfl,qa,qb,by rw[ra.length,rb.length];exact xH hz,fun p hp=>?_⟩;exact k _ _ _ (bA.zI s hp) ⟨p,rfl,hp,s.free hp,_,aL,ra.append rb⟩
  ·cases e
 ·cases e
theorem Om:OpD (fun x y H Q=>rI Hv (fun i j=>.int (i*j)) x y H Q\/HZ x y H Q) Dm.cH:=by
 intro H0 H x y dx dy z Q s rx ry e k;unfold Dm.cH at e;split at e
 ·split at e
  ·rename_i hj;cases e;cases bf rx;cases bf ry;exact .inl ⟨_,_,rfl,rfl,hj,k _ H0 H (bA.refl s) (.int _)⟩
  ·cases e
 ·split at e
  ·rename_i hz;cases e;cases bf ry;obtain⟨a,us,rfl,qa,ra⟩:=ef s rx;obtain⟨h1,h2,h3⟩:=hz;unfold Dm.BIG at h1 h2;refine .inr ⟨a,_,us,rfl,rfl,qa,by lia,by lia,by rw[ra.length];exact xH h3,fun p hp=>?_⟩;exact k _ _ _ (bA.zI s hp) ⟨p,rfl,hp,s.free hp,_,aL,ra.rep _⟩
  ·cases e
 ·cases e
theorem MV:OpD (KQ false) Dm.gEq:=by
 intro H0 H x y dx dy z Q s rx ry e k;unfold Dm.gEq at e;split at e
 ·rename_i hk;rw[U9]at hk;cases e;exact⟨dx,dy,rx.full s,ry.full s,hk.1,hk.2,k _ H0 H (bA.refl s) (.bl _)⟩
 ·cases e
theorem MW:OpD (KQ true) Dm.gNe:=by
 intro H0 H x y dx dy z Q s rx ry e k;unfold Dm.gNe at e;split at e
 ·rename_i hk;rw[U9]at hk;cases e;exact⟨dx,dy,rx.full s,ry.full s,hk.1,hk.2,k _ H0 H (bA.refl s) (.bl _)⟩
 ·cases e
theorem H_:OpD (QV true) Dm.uW:=by
 intro H0 H x y dx dy z Q s rx ry e k;unfold Dm.uW at e;split at e
 ·split at e
  ·rename_i hk;rw[U9]at hk;cases e;exact⟨dx,_,rx.full s,.inl (ry.full s),hk.1,hk.2,k _ H0 H (bA.refl s) (.bl _)⟩
  ·cases e
 ·split at e
  ·rename_i hk;rw[U9]at hk;cases e;exact⟨dx,_,rx.full s,.inr (ry.full s),hk.1,hk.2,k _ H0 H (bA.refl s) (.bl _)⟩
  ·cases e
 ·cases e
theorem ED{H0:Hp}{xs:List V}{ds:List Dat}{i:Int}{d:Dat}(rs:bz H0 xs ds)(e:Dm.atI ds i=some d):∃v,L2.atI xs i=some v/\Rep H0 v d:=by
 unfold Dm.atI at e;cases q:Dm.ixN ds.length i with
 |none=>rw[q]at e;cases e
 |some j=>rw[q]at e;obtain⟨v,hv,r⟩:=rs.get (i:=j) e;refine⟨v,?_,r⟩;unfold L2.atI;rw[rs.length];have q':L2.ixN ds.length i=some j:=q;rw[q'];exact hv
theorem QZ{K:gc}:OpD (fun x y H Q=>Qq K x y H Q\/Qs K x y H Q) Dm.gIx:=by
 intro H0 H x y dx dy z Q s rx ry e k;unfold Dm.gIx at e;split at e
 ·rename_i ds i;cases q:Dm.atI ds i with
  |none=>rw[q]at e;cases e
  |some d=>rw[q]at e;cases e;cases bf ry;obtain⟨a,us,rfl,qa,ra⟩:=ef s rx;obtain⟨v,hv,rv⟩:=ED ra q;exact .inl ⟨a,us,i,v,rfl,rfl,.inl qa,hv,k _ H0 H (bA.refl s) rv⟩
 ·rename_i ds i;cases q:Dm.atI ds i with
  |none=>rw[q]at e;cases e
  |some d=>rw[q]at e;cases e;cases bf ry;obtain⟨a,us,rfl,qa,ra⟩:=yb s rx;obtain⟨v,hv,rv⟩:=ED ra q;exact .inr ⟨a,us,i,v,rfl,rfl,.inl (.inl qa),hv,k _ H0 H (bA.refl s) rv⟩
 ·cases e
theorem Oo{K:gc}:CallD (fun xs H Q=>∃p ys,xs=[.ref p]/\(SqL K H p ys\/SqT K H p ys)/\Q (.int ys.length) H) Dm.ck:=by
 intro H0 H vs ds z Q s rs e k;unfold Dm.ck at e;split at e
 ·cases e;cases rs with
  |cons r rr=>cases rr;obtain⟨a,us,rfl,qa,ra⟩:=ef s r;exact⟨a,us,rfl,.inl (.inl qa),k _ H0 H (bA.refl s) (by rw[ra.length];exact .int _)⟩
 ·cases e;cases rs with
  |cons r rr=>cases rr;obtain⟨a,us,rfl,qa,ra⟩:=yb s r;exact⟨a,us,rfl,.inr (.inl (.inl qa)),k _ H0 H (bA.refl s) (by rw[ra.length];exact .int _)⟩
 ·cases e
theorem KY:CallD (fun xs H Q=>∃i j,xs=[.int i,.int j]/\Q (.int (if j<i then j else i)) H) Dm.b4:=by
 intro H0 H vs ds z Q s rs e k;unfold Dm.b4 at e;split at e
 ·cases e;cases rs with
  |cons r rr=>
   cases rr with
   |cons r' rr=>cases rr;cases bf r;cases bf r';exact⟨_,_,rfl,k _ H0 H (bA.refl s) (.int _)⟩
 ·cases e
theorem KZ:CallD (fun xs H Q=>∃i j,xs=[.int i,.int j]/\Q (.int (if j>i then j else i)) H) Dm.cu:=by
 intro H0 H vs ds z Q s rs e k;unfold Dm.cu at e;split at e
 ·cases e;cases rs with
  |cons r rr=>
   cases rr with
   |cons r' rr=>cases rr;cases bf r;cases bf r';exact⟨_,_,rfl,k _ H0 H (bA.refl s) (.int _)⟩
 ·cases e
theorem K0{K:gc}:CallD (fun xs H Q=>∃p ys,xs=[.ref p]/\(SqL K H p ys\/SqT K H p ys)/\∀l,H l=none->Q (.ref l) (upd H l (.lst ys))) Dm.cA:=by
 intro H0 H vs ds z Q s rs e k;unfold Dm.cA at e;split at e
 ·cases e;cases rs with
  |cons r rr=>cases rr;obtain⟨a,us,rfl,qa,ra⟩:=ef s r;exact⟨a,us,rfl,.inl (.inl qa),fun p hp=>k _ _ _ (bA.zI s hp) ⟨p,rfl,hp,s.free hp,_,aL,ra⟩⟩
 ·cases e;cases rs with
  |cons r rr=>cases rr;obtain⟨a,us,rfl,qa,ra⟩:=yb s r;exact⟨a,us,rfl,.inr (.inl (.inl qa)),fun p hp=>k _ _ _ (bA.zI s hp) ⟨p,rfl,hp,s.free hp,_,aL,ra⟩⟩
 ·cases e
theorem Ia{K:gc}:CallD (fun xs H Q=>∃p ys,xs=[.ref p]/\((SqL K H p ys/\∀l,H l=none->Q (.ref l) (upd H l (.tup ys)))\/(SqT K H p ys/\Q (.ref p) H))) Dm.bE:=by
 intro H0 H vs ds z Q s rs e k;unfold Dm.bE at e;split at e
 ·cases e;cases rs with
  |cons r rr=>cases rr;obtain⟨a,us,rfl,qa,ra⟩:=ef s r;refine⟨a,us,rfl,.inl ⟨.inl qa,fun p hp=>?_⟩⟩;have g:=bA.BJ (o:=HO.tup us) s hp;exact k _ _ _ g (.tup aL (ra.mono g.s0))
 ·cases e;cases rs with
  |cons r rr=>
   cases rr;rcases r with r | ⟨a,_,w⟩
   ·cases r with
    |tup q rs=>exact⟨_,_,rfl,.inr ⟨.inl (.inl (s _ _ q)),k _ H0 H (bA.refl s) (.tup q rs)⟩⟩
   ·exact UH w
 ·cases e
noncomputable abbrev DS(X:Cx)(st:Stmt)(f:FS):Prop:=PS X st (tDS f)
noncomputable abbrev DSs(X:Cx)(st:List Stmt)(f:FS):Prop:=PSs X st (tDS f)
noncomputable abbrev DI(X:Cx)(tg it:Expr)(f:Dm.FI):Prop:=PI X tg it (tDI f)
theorem PI.weak{X:Cx}{tg it:Expr}{t t':TI}(h:PI X tg it t)(k:∀σ H R,t' σ H R->t σ H R):PI X tg it t':=fun Ju s σ H R I q=>h Ju s σ H R I (k σ H R q)
section
variable{X:Cx}{a b c e:Expr}{fa fb fc f:FE}{pos:Pos}
section
variable{g:Dat->Dat->Option RV}{L8:List Expr}{r:List V->Hp->VK->Prop}{x:Str}{k:Nat}{i:Int}
theorem d_v(i:Nat)(hN:X.N[i]?=some x:=by rfl)(hv:Vis X.env.scope x:=by trivial)(hd:(x == ("__debug__" : Str))=false:=by decide)
  (Sl:(x == ("__classdict__" : Str))=false:=by decide):DE X (.Name x pos) (Dm.eV i):=PE.weak (C3 hN hv hd Sl) fun _ _ _=>Qz
theorem d_i{j}:DE X (.Constant (.int i) j pos) (Dm.eC (.int i)):=PE.weak G8 fun _ _ _=>tL fun _=>.int i
theorem d_b{v:Bool}{j}:DE X (.Constant (.bool v) j pos) (Dm.eC (.bl v)):=PE.weak Qa fun _ _ _=>tL fun _=>.bl v
theorem d_n{j}:DE X (.Constant .none j pos) (Dm.eC .non):=PE.weak NF fun _ _ _=>tL fun _=>.non
theorem d_s{s:List Nat}{j}(hx:x=⟨s.toArray⟩:=by rfl):DE X (.Constant (.str x) j pos) (Dm.eC (.str s)):=by subst hx;exact PE.weak NG fun _ _ _=>tL fun _=>.str s
theorem d_g{t:Tok}(hg:Gl X x)(hm:X.mg x=some (.int i t))(hd:(x == ("__debug__" : Str))=false:=by decide):DE X (.Name x pos) (Dm.eC (.int i)):=
 PE.weak (El (v:=.int i) hg hm ⟨t,rfl⟩ hd) fun _ _ _=>tL fun _=>.int i
theorem F0{op:Operator}{r:R2}(o:OpR X (binaryOp op) r)(od:OpD r g)(ha:DE X a fa)(hb:DE X b fb):DE X (.BinOp a op b pos) (Dm.e2 g fa fb):=
 PE.weak (Qi o ha hb) fun _ _ _=>KI od
theorem cC(ha:DE X a fa)(hb:DE X b fb):DE X (.BinOp a .Add b pos) (Dm.e2 Dm.bh fa fb):=F0 KU Ol ha hb
theorem yc(ha:DE X a fa)(hb:DE X b fb):DE X (.BinOp a .Sub b pos) (Dm.e2 Dm.dG fa fb):=F0 NX Of ha hb
theorem nG(ha:DE X a fa)(hb:DE X b fb):DE X (.BinOp a .Mult b pos) (Dm.e2 Dm.cH fa fb):=F0 KW Om ha hb
theorem tP(ha:DE X a fa)(hb:DE X b fb):DE X (.BinOp a .FloorDiv b pos) (Dm.e2 Dm.cK fa fb):=F0 HX Oi ha hb
theorem cD(ha:DE X a fa)(hb:DE X b fb):DE X (.BinOp a .Mod b pos) (Dm.e2 Dm.bu fa fb):=F0 NZ Og ha hb
theorem yd(ha:DE X a fa)(hb:DE X b fb):DE X (.BinOp a .Pow b pos) (Dm.e2 Dm.cX fa fb):=F0 N1 Oh ha hb
theorem BQ(ha:DE X a fa):DE X (.UnaryOp .USub a pos) (Dm.e1 Dm.eu fa):=PE.weak (MO Hw ha) fun _ _ _=>S3 Oj
theorem MX{op:CmpOp}{r:R2}(o:OpR X (compareOp op) r)(od:OpD r g)(ha:DE X a fa)(hb:DE X b fb)(hm:behindInMarks op b=false):DE X (.Compare a [op] [b] pos) (Dm.e2 g fa fb):=
 PE.weak (Ku o ha hb hm) fun _ _ _=>KI od
theorem Ab{op:CmpOp}{r:R2}(o:OpR X (compareOp op) r)(od:OpD r g)(ha:DE X a fa)(hb:DE X b fb)(hm:behindInMarks op b=false):DT X (.Compare a [op] [b] pos) (Dm.tV (Dm.e2 g fa fb)):=
 PT.weak (Kv o ha hb hm) fun σ H Q h=>KI od (HP h)
theorem K1(hr:cS k X.A)(ha:DE X a fa)(hb:DE X b fb):DE X (.Compare a [.Eq] [b] pos) (Dm.e2 Dm.gEq fa fb):=MX (HV hr) MV ha hb (qM _)
theorem Te(hr:cS k X.A)(ha:DE X a fa)(hb:DE X b fb):DE X (.Compare a [.NotEq] [b] pos) (Dm.e2 Dm.gNe fa fb):=MX (HW hr) MW ha hb (qM _)
theorem AM(hr:cS k X.A)(ha:DE X a fa)(hb:DE X b fb):DT X (.Compare a [.Eq] [b] pos) (Dm.tV (Dm.e2 Dm.gEq fa fb)):=Ab (HV hr) MV ha hb (qM _)
theorem K2(hr:cS k X.A)(ha:DE X a fa)(hb:DE X b fb):DT X (.Compare a [.NotEq] [b] pos) (Dm.tV (Dm.e2 Dm.gNe fa fb)):=Ab (HW hr) MW ha hb (qM _)
theorem Tf(ha:DE X a fa)(hb:DE X b fb):DT X (.Compare a [.Lt] [b] pos) (Dm.tV (Dm.e2 Dm.gLt fa fb)):=Ab Ql QW ha hb (qM _)
theorem F1(ha:DE X a fa)(hb:DE X b fb):DT X (.Compare a [.Gt] [b] pos) (Dm.tV (Dm.e2 Dm.gGt fa fb)):=Ab Qm QX ha hb (qM _)
theorem Q0(hr:cS k X.A)(ha:DE X a fa)(hb:DE X b fb)(hm:behindInMarks .NotIn b=false:=by rfl):DT X (.Compare a [.NotIn] [b] pos) (Dm.tV (Dm.e2 Dm.uW fa fb)):=Ab (FZ hr) H_ ha hb hm
theorem bB(ha:DE X a fa)(hb:DE X b fb)(hs:Eu b:=by intro _ _;rfl):DE X (.Subscript a b pos) (Dm.e2 Dm.gIx fa fb):=PE.weak (Qp (KD.or N6) ha hb hs) fun _ _ _=>KI QZ
theorem aB:DA X [] []:=PA.weak mE fun _ _ _=>QA
theorem af{es:List Expr}{fs:List FE}(h:DE X e f)(r:DA X es fs)(hs:starEach (e::es) X.env=(false,eval e X.env)::starEach es X.env:=by rfl):DA X (e::es) (f::fs):=PA.weak (gb h r hs) fun _ _ _=>N_
theorem cL{es:List Expr}{fs:List FE}{x1}(h:DA X es fs):DE X (.Tuple es x1 pos) (Dm.bJ fs):=PE.weak (N3 h) fun _ _ _=>QC
theorem gg{es:List Expr}{fs:List FE}(h:DA X es fs):DE X (.List es pos) (Dm.bS fs):=PE.weak (N4 h) fun _ _ _=>QD
theorem F2{es:List Expr}{fs:List FE}{g:List Dat->Option RV}{id:String}{p:Pos}(hc:kH X (.builtin id) r)(cd:CallD r g)(hv:bootBuiltins x=some (.builtin id))(hg:Gl X x)(hm:X.mg x=none)(ha:DA X (e::es) fs)
  (hn:x ≠ "__name__" := by decide) (RQ:(x == ("__debug__" : Str))=false:=by decide) (he:starEach (e::es) X.env=(false,eval e X.env)::starEach es X.env:=by rfl) (RN:(backTo pos (starEach es X.env)).any (·.1)=false:=by rfl) :
  DE X (.Call (.Name x p) (e::es) [] pos) (Dm.eB g fs):=PE.weak (nW hc hg hm hv ha hn RQ he RN) fun _ _ _=>QB cd
theorem Q2{es:List Expr}{fs:List FE}{g:List Dat->Option RV}{T:String}{p:Pos}(hc:kH X (.type T) r)(cd:CallD r g)(hv:bootBuiltins x=some (.type T))(hg:Gl X x)(hm:X.mg x=none)(ha:DA X (e::es) fs)
  (hn:x ≠ "__name__" := by decide) (RQ:(x == ("__debug__" : Str))=false:=by decide) (he:starEach (e::es) X.env=(false,eval e X.env)::starEach es X.env:=by rfl) (RN:(backTo pos (starEach es X.env)).any (·.1)=false:=by rfl) :
  DE X (.Call (.Name x p) (e::es) [] pos) (Dm.eB g fs):=PE.weak (z8 hc hg hm hv ha hn RQ he RN) fun _ _ _=>QB cd
variable{es:List Expr}{fs:List FE}{p:Pos}
theorem nJ(hg:Gl X "len")(hm:X.mg "len" = none)(ha:DA X [e] fs)(he:starEach [e] X.env=[(false,eval e X.env)]:=by rfl)(RN:(backTo pos (starEach [] X.env)).any (·.1)=false:=by rfl):DE X (.Call (.Name "len" p) [e] [] pos) (Dm.eB Dm.ck fs):=F2 AH Oo PySem.boot_len hg hm ha (he:=he) (RN:=RN)
theorem AO(hc:X.calm=true)(hg:Gl X "min")(hm:X.mg "min" = none)(ha:DA X [a,b] fs)(he:starEach [a,b] X.env=(false,eval a X.env)::starEach [b] X.env:=by rfl)(RN:(backTo pos (starEach [b] X.env)).any (·.1)=false:=by rfl):DE X (.Call (.Name "min" p) [a,b] [] pos) (Dm.eB Dm.b4 fs):=F2 (FG hc) KY (by rfl) hg hm ha (he:=he) (RN:=RN)
theorem Ib(hc:X.calm=true)(hg:Gl X "max")(hm:X.mg "max" = none)(ha:DA X [a,b] fs)(he:starEach [a,b] X.env=(false,eval a X.env)::starEach [b] X.env:=by rfl)(RN:(backTo pos (starEach [b] X.env)).any (·.1)=false:=by rfl):DE X (.Call (.Name "max" p) [a,b] [] pos) (Dm.eB Dm.cu fs):=F2 (FF hc) KZ (by rfl) hg hm ha (he:=he) (RN:=RN)
theorem Oq(hg:Gl X "list")(hm:X.mg "list" = none)(ha:DA X [e] fs)(he:starEach [e] X.env=[(false,eval e X.env)]:=by rfl)(RN:(backTo pos (starEach [] X.env)).any (·.1)=false:=by rfl):DE X (.Call (.Name "list" p) [e] [] pos) (Dm.eB Dm.cA fs):=Q2 AI K0 (by rfl) hg hm ha (he:=he) (RN:=RN)
theorem K3(hg:Gl X "tuple")(hm:X.mg "tuple" = none)(ha:DA X [e] fs)(he:starEach [e] X.env=[(false,eval e X.env)]:=by rfl)(RN:(backTo pos (starEach [] X.env)).any (·.1)=false:=by rfl):DE X (.Call (.Name "tuple" p) [e] [] pos) (Dm.eB Dm.bE fs):=Q2 zG Ia (by rfl) hg hm ha (he:=he) (RN:=RN)
theorem bq{F:Addr}{fd:FuncData}{ps:List Str}{g:List Dat->Option RV}(G:cF X.prog X.w X.K X.mg X.base CX0 k F fd ps (spD g))(hr:cS k X.A)(hg:Gl X x)(hm:X.mg x=some (.ref F))(hk:Ut X.K (.ref F)=true)(hb:Binds X.K fd ps [])
  (ha:DA X (e::es) fs) (RQ:(x == ("__debug__" : Str))=false:=by decide) (he:starEach (e::es) X.env=(false,eval e X.env)::starEach es X.env:=by rfl) (RN:(backTo pos (starEach es X.env)).any (·.1)=false:=by rfl) :
  DE X (.Call (.Name x p) (e::es) [] pos) (Dm.eF g fs):=PE.weak (Kz G hr hg hm hk hb .nil (MS (X:=X)) ha RQ he RN) fun _ _ _=>HN
theorem EE{op}(h:DE X a fa):DE X (.BoolOp op [a] pos) fa:=NJ h
theorem EF(ha:DE X a fa)(hb:DE X (.BoolOp .And (b::L8) pos) fb):DE X (.BoolOp .And (a::b::L8) pos) (Dm.dI fa fb):=PE.weak (NK ha hb) fun _ _ _=>QE
theorem Tg(ha:DE X a fa)(hb:DE X (.BoolOp .Or (b::L8) pos) fb):DE X (.BoolOp .Or (a::b::L8) pos) (Dm.eOr fa fb):=PE.weak (Qd ha hb) fun _ _ _=>S4
theorem Q3(ha:DE X a fa):DE X (.UnaryOp .Not a pos) (Dm.eW fa):=PE.weak (NL ha) fun _ _ _=>QF
noncomputable abbrev DW(X:Cx)(e:Expr)(f:FT):Prop:=PW X e (tDT f)
theorem PW.weak{t t':TT}(h:PW X e t)(k:∀σ H Q,t' σ H Q->t σ H Q):PW X e t':=fun whole Ju s σ H Q I q=>h whole Ju s σ H Q I (k σ H Q q)
variable{ta tb:FT}
theorem Ic(h:DT X a ta):DW X (.BoolOp .And [a] pos) ta:=pw_and1 h
theorem n5(h:DT X a ta):DW X (.BoolOp .Or [a] pos) ta:=pw_or1 h
theorem w_and(ha:DT X a ta)(hb:DW X (.BoolOp .And (b::L8) pos) tb):DW X (.BoolOp .And (a::b::L8) pos) (Dm.dB ta tb):=PW.weak (pw_and ha hb) fun _ _ _=>Ob
theorem w_or(ha:DT X a ta)(hb:DW X (.BoolOp .Or (b::L8) pos) tb):DW X (.BoolOp .Or (a::b::L8) pos) (Dm.tOr ta tb):=PW.weak (pw_or ha hb) fun _ _ _=>QG
theorem t_w(h:DW X a ta):DT X a ta:=h.pt
theorem gh(h:DT X a ta):DT X (.UnaryOp .Not a pos) (Dm.bM ta):=PT.weak (NI h) fun _ _ _=>Oa
theorem gj(h:DE X e f)(he:∀whole,isTrue e X.env whole=(do let v <- whole;standAt e.pos;holding [v] (truthy v)):=by intro _;rfl):DT X e (Dm.tV f):=PT.weak (NH h he) fun _ _ _=>HP
variable{tg:Expr}
theorem F3(hg:Gl X "range")(hm:X.mg "range" = none)(ha:DA X [a] [fa])(hs:starEach [a] X.env=[(false,eval a X.env)]:=by rfl):DI X tg (.Call (.Name "range" p) [a] [] pos) (Dm.iR1 fa):=
 PI.weak (Fz hg hm ha hs) fun _ _ _=>QN
theorem Q4(hg:Gl X "range")(hm:X.mg "range" = none)(ha:DA X [a,b] [fa,fb])(hs:starEach [a,b] X.env=[(false,eval a X.env),(false,eval b X.env)]:=by rfl)(hs2:starEach [b] X.env=[(false,eval b X.env)]:=by rfl):DI X tg (.Call (.Name "range" p) [a,b] [] pos) (Dm.iR2 fa fb):=
 PI.weak (FA hg hm ha hs hs2) fun _ _ _=>QO
end
end
section
variable{X:Cx}{st:Stmt}{L8:List Stmt}{fs gs:FS}{e a b c:Expr}{f fa fb:FE}{pos:Pos}
section
variable{is:List Nat}{body:List Stmt}{es:List Expr}{x:Str}{t:FT}
theorem eS:DSs X [] Dm.sNx:=PSs.weak En fun _ _ _=>S5
theorem aM(h1:DS X st fs)(h2:DSs X L8 gs):DSs X (st::L8) (Dm.aO fs gs):=PSs.weak (nV h1 h2) fun _ _ _=>QH
theorem a_(h1:DS X st fs):DSs X [st] fs:=Kq h1
theorem s_a(i:Nat){x:Str}{pos':Pos}(hN:X.N.Nodup)(he:DE X e f)(hi:X.N[i]?=some x:=by rfl)(hx:Loc X.env.scope x:=by trivial)(hs:swapsWith e (some (.Name x pos')) pos.line X.env=pure false:=by rfl)
  (hf:X.fn x=true\/X.env.scope.names.lookup x=some .local:=by trivial):DS X (.Assign [.Name x pos'] e pos) (Dm.sA i f):=PS.weak (NR hN hi hx he hs hf) fun _ _ _=>QK
theorem AQ:PGs X [] (qO []):=Kr
theorem kI(i:Nat){px:Pos}(hN:X.N.Nodup)(h2:PGs X es (qO is))(hi:X.N[i]?=some x:=by rfl)(hx:Loc X.env.scope x:=by trivial)
  (hf:X.fn x=true\/X.env.scope.names.lookup x=some .local:=by trivial) (hs:(assignEach (.Name x px::es) X.env).map (·.2)=assign (.Name x px) X.env::(assignEach es X.env).map (·.2):=by rfl):PGs X (.Name x px::es) (qO (i::is)):=Hj (AE hN hi hx hf) h2 hs
theorem s_u{k:Nat}{tpos:Pos}(hc:X.calm=true)(hg:PGs X es (qO is))(he:DE X e f)(hn:(assignEach es X.env).length=is.length:=by rfl)(hst:(assignEach es X.env).findIdx? (·.1)=none:=by rfl)
  (hs:swapsWithSole [.Tuple es k tpos] e pos.line X.env=pure false:=by rfl) (hw:swappedStores [.Tuple es k tpos] e X.env=pure none:=by rfl) (h1:(assignEach [.Tuple es k tpos] X.env).map (·.2)=[assign (.Tuple es k tpos) X.env]:=by rfl) :
  DS X (.Assign [.Tuple es k tpos] e pos) (Dm.sU is f):=PS.weak (NQ he (NP hc hg hn hst) hs hw h1) fun _ _ _=>HQ rfl
theorem s_e(he:DE X e f)(hs:swapsWith e none pos.line X.env=pure false:=by rfl):DS X (.Expr e pos) (Dm.sE f):=PS.weak (tF he hs) fun _ _ _=>Oc
theorem s_r(he:DE X e f):DS X (.Return (some e) pos) (Dm.sR f):=PS.weak (NN he) fun _ _ _=>QI
theorem kj{x y:List Stmt}(ht:DT X c t)(ha:DSs X x fs)(hb:DSs X y gs):DS X (.If c x y pos) (Dm.sIf t fs gs):=PS.weak (Hg ht ha hb) fun _ _ _=>QJ
theorem kX:DS X st (fun _=>none):=PS.weak Hh fun _ _ _ ⟨_,_,_,_,z,_⟩=>by cases z
theorem Ac(i:Nat){px ap cp:Pos}(he:DE X e f)(hi:X.N[i]?=some x:=by rfl)(hv:Vis X.env.scope x:=by trivial)(hd:(x == ("__debug__" : Str))=false:=by decide)
  (Sl:(x == ("__classdict__" : Str))=false:=by decide) (TQ:attributeBase (.Name x px) "append" X.env (eval (.Name x px) X.env)=eval (.Name x px) X.env:=by rfl)
  (hfew:((backTo cp (starEach [e] X.env)).all (fun x=>!x.1)&&(backToKw cp (keywordEach [] X.env)).all (fun x=>x.1.isSome)
   && decide ([e].length+([]:List Keyword).length+(if ([]:List Keyword).isEmpty then 0 else 1)<30))=true:=by rfl)
  (TN:(ap.endLine == cp.line)=true:=by rfl) (hs:starEach [e] X.env=(false,eval e X.env)::starEach [] X.env:=by rfl) (hplain:(backTo cp (starEach [] X.env)).any (·.1)=false:=by rfl)
  (hsw:swapsWith (.Call (.Attribute (.Name x px) "append" ap) [e] [] cp) none pos.line X.env=pure false:=by rfl) :
  DS X (.Expr (.Call (.Attribute (.Name x px) "append" ap) [e] [] cp) pos) (Dm.dF i f):=
 PS.weak (tF (Qw PySem.F.plainAttrs_list PySem.F.slot_list_append PySem.F.type_list_append z9 (C3 hi hv hd Sl) (af he aB hs) TQ hfew TN hs hplain) hsw) fun _ _ _=>QL
theorem Th(n:Nat)(hp:PassesOwn (model X.prog X.w) X.A X.env X.xe)(ht:DT X c t)(hb:DSs X body fs):DS X (.While c body [] pos) (Dm.whD t fs n):=PS.weak (Ho hp ht hb) fun _ _ _=>KJ
structure TG'(X:Cx)(tg:Expr)(is:List Nat)(bd:Dm.FB):Prop where
 ex:∃g,PG X tg g/\BD is g bd
theorem g_n(i:Nat){px:Pos}(hN:X.N.Nodup)(hi:X.N[i]?=some x:=by rfl)(hx:Loc X.env.scope x:=by trivial)(hf:X.fn x=true\/X.env.scope.names.lookup x=some .local:=by trivial) :
  TG' X (.Name x px) [i] (Dm.bN i):=⟨⟨_,AE hN hi hx hf,EB i⟩⟩
theorem Ad{tg it:Expr}{fi:Dm.FI}{bd:Dm.FB}(hp:PassesOwn (model X.prog X.w) X.A X.env X.xe)(hc:X.calm=true)(hi:DI X tg it fi)(hg:TG' X tg is bd)(hb:DSs X body fs)
  (hs:∀x,foldedSetIterable it X.env x=pure x:=by intro _;rfl):DS X (.For tg it body [] pos) (Dm.dc fi bd fs):=by
 obtain⟨g,h1,h2⟩:=hg.ex;exact PS.weak (Hu hp hc hi h1 hb hs) fun _ _ _=>QM h2
end
end
noncomputable def tyName:Dat->String
 |.non => "NoneType"
 |.bl _ => "bool"
 |.int _ => "int"
 |.str _ => "str"
 |.tup _ => "tuple"
 |.lst _ => "list"
 |.dct _ _ => "dict"
 |.dcp _ _ => "dict"
 |.exc _ => "dict"
 |.cz _ _ => "dict"
 |.fn _ => "dict"
def F4(T:String)(p:Dat->Bool):Prop:=∀(K:gc) (d:Dat),eg K (.type (tyName d)) (.type T)=some (p d)
theorem K4:F4 "int" Dm.isI:=fun K d=>by cases d<;>rfl
theorem Ie:F4 "bool" Dm.isB:=fun K d=>by cases d<;>rfl
theorem tQ:F4 "list" Dm.isL:=fun K d=>by cases d<;>rfl
theorem kit_tuple:F4 "tuple" Dm.isT:=fun K d=>by cases d<;>rfl
theorem Ig{K:gc}{H:Hp}{v:V}{d:Dat}(r:Rep H v d)(nx:∀C,d≠.exc C/\d≠.fn C/\∀v,d≠.cz C v):tH K H v (.type (tyName d)):=by
 cases r with
 |non=>exact .non
 |bl b=>exact .bl b
 |int i=>exact .int i
 |str s=>exact .str _
 |tup q _=>exact .tup q
 |lst q _=>
  rcases q with q | ⟨o,q⟩
  ·exact .lst q
  ·exact .frz q
 |dct q _ _=>exact .dK q
 |dcp q _ _=>exact .dT q
 |exc _=>exact absurd rfl (nx _).1
 |cz _ _=>exact absurd rfl ((nx _).2.2 _)
 |fn _=>exact absurd rfl (nx _).2.1
def Q5(K:gc)(T:String):List V->Hp->VK->Prop:=fun xs H Q=>∃x t b,xs=[x,.ty T]/\tH K H x t/\eg K t (.type T)=some b/\Q (.bl b) H
section
variable{X:Cx}{e:Expr}{f:FE}{p p2 pos:Pos}
theorem Ih{T:String}:kH X (.builtin "isinstance") (Q5 X.K T):=by intro Ju s σ H xs us Q I r h;obtain⟨x,t,b,rfl,ty,e,q⟩:=h;obtain⟨u,u2,rfl,rx,ry⟩:=vals2 r;cases ry;exact FJ I rx ty e fun tk=>⟨.bl b,H,I.tok tk,rfl,q⟩
theorem Q6{K:gc}{T:String}{p:Dat->Bool}(kp:F4 T p){σ:L2.St}{H:Hp}{Q:VK}(h:tD (Dm.e1 (Dm.tK p) f) σ H Q):tCB (Q5 K T) (qI (tD f) (qI (tC (.ty T)) C9)) σ H Q:=by
 obtain⟨H0,ρ,x,ρ',st,e,k⟩:=h;unfold Dm.e1 at e;split at e
 ·cases e
 rename_i x1 ρ1 e1;split at e
 ·cases e
 rename_i dx p1;have nx:∀C,dx≠.exc C/\dx≠.fn C/\∀v,dx≠.cz C v:=fun C=>⟨fun z=>(by subst z;cases e),fun z=>(by subst z;cases e),fun v z=>(by subst z;cases e)⟩;have ev:Dm.tK p dx=Dm.vB (p dx):=by cases dx<;>first | rfl | exact absurd rfl (nx _).1 | exact absurd rfl (nx _).2.1 | exact absurd rfl ((nx _).2.2 _)
 rw[ev]at e;dsimp only at e;cases e;refine⟨H0,ρ,x1,_,st,e1,fun v H1 Hb t1 r1=>?_⟩;exact⟨v,_,_,rfl,Ig ((r1.look t1.st p1).full t1.st.same) nx,kp K dx,k _ H1 Hb t1 (Rep.bl _)⟩
theorem ye{T:String}{tn:Str}{p':Dat->Bool}(kp:F4 T p')(hvT:bootBuiltins tn=some (.type T))(hgT:Gl X tn)(hmT:X.mg tn=none)(hg:Gl X "isinstance")(hm:X.mg "isinstance" = none)(h:DE X e f)
  (hn:tn ≠ "__name__" := by decide) (RQ:(tn == ("__debug__" : Str))=false:=by decide)
  (he:starEach [e,.Name tn p2] X.env=(false,eval e X.env)::starEach [.Name tn p2] X.env:=by rfl) (RN:(backTo pos (starEach [.Name tn p2] X.env)).any (·.1)=false:=by rfl) (he2:starEach [.Name tn p2] X.env=(false,eval (.Name tn p2) X.env)::starEach [] X.env:=by rfl) :
  DE X (.Call (.Name "isinstance" p) [e,.Name tn p2] [] pos) (Dm.e1 (Dm.tK p') f):=
 PE.weak (nW Ih hg hm Wu (gb h (gb (Em (v:=.ty T) hgT hmT hvT rfl hn RQ) mE he2) he) (he:=he) (RN:=RN)) fun _ _ _=>Q6 kp
theorem all_range(bs:List Bool):(UG bs.length).all (fun i=>bs.getD i true)=bs.all id:=by
 rw[XZ,Vd,Vd];constructor
 ·intro h b hb;obtain⟨i,hi,rfl⟩:=Xl.mp hb;have:=h i (U4.mpr hi);rw[Vq,Uz hi]at this;exact this
 ·intro h i hi;have hi:=U4.mp hi;rw[Vq,Uz hi];exact h _ (WD hi)
theorem F5(hc:X.calm=true):kH X (.builtin "all") (fun xs H Q=>∃(a:Addr) (bs:List Bool),xs=[.ref a]/\Rd H a (.lst (bs.map V.bl))/\Q (.bl (bs.all id)) H):=by
 intro Ju s σ H xs us Q I r h;obtain⟨a,bs,rfl,hq,q⟩:=h;obtain⟨u,rfl,rx⟩:=vals1 r;cases rx;obtain⟨z,its,n,rv,e⟩:=hq.ok I.hok;have hl:s.heap.IsList a its.toArray:=⟨_,e,rfl,_,rfl⟩
 have RM:=rv.length;rw[Ud]at RM;have hax:a≠s.heap.objs.size:=UM (Uh e);refine PySem.call_all_walk (wpAny_pyIter_list hl ⟨s.heap.objs.size,_,_,_,_,_,fun i=>bs.getD i true,rfl,Walks.list (A:=X.A.in1) (I.ok.hd hc) s.heap.objs.size a hax its.toArray,⟨⟨_,UW _ rfl,rfl,rfl⟩,hl.push _⟩,?_,fun h' tk hk=>?_⟩)
 ·intro i v s' Q' E' hv hQ';have hv':its[i]?=some v:=by simpa using hv
  have hi:i<bs.length:=by rw[RM];exact(UT.mp hv').1
  have hb:(bs.map V.bl)[i]?=some (V.bl bs[i]):=by rw[UX,Uz hi];rfl
  obtain⟨u,hu,ru⟩:=rv.get hb;rw[hv']at hu;cases hu;cases ru;refine wpAny_truthy_bool ?_;have e2:bs.getD i true=bs[i]:=by rw[Vq,Uz hi];rfl
  rw[<- e2];exact hQ'
 ·have e1:its.toArray.size=bs.length:=by rw[UE,RM]
  rw[e1,all_range];refine⟨.bl _,H,I.kept (t':=tk) fun b o eb=>hk b o ?_ (Dk _ eb),rfl,q⟩;intro hm;have:b=s.heap.objs.size:=by simpa using hm
  exact absurd (Uh eb) (by rw[this];exact V1 _)
end
section
variable{X:Cx}{a b c e:Expr}{f fa fb fc:FE}{p p2 pos:Pos}
section
variable{g h:Dat->Dat->Option RV}{σ:L2.St}{Q:VK}{H:Hp}
theorem K5{r r':R2}(o1:OpD r g)(o2:OpD r' h)(hh:tD (Dm.bH g h fa fb fc) σ H Q):Hx r r' (tD fa) (tD fb) (tD fc) σ H Q:=by
 obtain⟨H0,ρ,x,ρ',st,e,k⟩:=hh;unfold Dm.bH at e;split at e
 ·cases e
 rename_i x1 ρ1 e1;split at e
 ·cases e
 rename_i y1 ρ2 e2;split at e
 ·cases e
 rename_i dx p1;split at e
 ·cases e
 rename_i dy p2;refine⟨H0,ρ,x1,ρ1,st,e1,fun v H1 Hb t1 r1=>⟨H1,ρ1,y1,ρ2,t1.st,e2,fun u H2 Hc t2 r2=>?_⟩⟩;split at e
 ·rename_i gz;refine o1 H2 Hc v u dx dy _ _ t2.st.same ((r1.mono t2).look t2.st p1) (r2.look t2.st p2) gz fun w H3 Hd g3 r3=>?_;refine⟨true,Rep.zJ r3,?_⟩;rw[if_pos rfl];have t3:=t2.trans (.grow t2.st g3);have r2':=r2.mono (.grow t2.st g3);split at e
  ·cases e
  rename_i z ρ3 e3;split at e
  ·cases e
  rename_i dy' p3;split at e
  ·cases e
  rename_i dz p4;split at e
  ·cases e
  rename_i w2 hz;cases e;refine⟨H3,ρ2,z,_,t3.st,e3,fun w' H4 He t4 r4=>?_⟩;refine o2 H4 He u w' dy' dz w2 Q t4.st.same ((r2'.mono t4).look t4.st p3) (r4.look t4.st p4) hz fun w5 H5 Hf g5 r5=>?_;exact k w5 H5 Hf (t1.trans (t3.trans (t4.trans (.grow t4.st g5)))) ((r5.toV t4.st).early fun a n=>(t1.trans (t3.trans t4)).stp.gone n)
 ·rename_i gz;cases e;refine o1 H2 Hc v u dx dy _ _ t2.st.same ((r1.mono t2).look t2.st p1) (r2.look t2.st p2) gz fun w H3 Hd g3 r3=>?_;refine⟨false,Rep.zJ r3,?_⟩;rw[if_neg UZ];exact k _ H3 Hd (t1.trans (t2.trans (.grow t2.st g3))) (Rep.bl false)
 ·cases e
theorem K6{op op':CmpOp}{r r':R2}(o1:OpR X (compareOp op) r)(q1:OpD r g)(o2:OpR X (compareOp op') r')(q2:OpD r' h)(ha:DE X a fa)(hb:DE X b fb)(hc:DE X c fc)
  (hm:lastMarks [op,op'] [b,c]=false:=by with_unfolding_all rfl):DE X (.Compare a [op,op'] [b,c] pos) (Dm.bH g h fa fb fc):=PE.weak (Hy o1 o2 ha hb hc hm) fun _ _ _=>K5 q1 q2
theorem Ii(n d:Nat)(o:Option Int)(hd:d<=n):HT.sIx n d o=Dm.sIx n d o:=by
 cases o with
 |none=>rfl
 |some v=>
  unfold HT.sIx Dm.sIx
  first
   |rfl
   |(dsimp only;split<;>lia)
theorem F6{H0:Hp}{xs:List V}{ds:List Dat}(rs:bz H0 xs ds)(lo hi:Option Int):bz H0 (Dc xs lo hi) (Dm.cut ds lo hi):=by unfold Dc Dm.cut;rw[rs.length,Ii _ _ _ (U6 _),Ii _ _ _ (Nat.le_refl _)];exact(rs.drop _).take _
theorem EG{fo:Option FE}{H0 H:Hp}{ρ ρ':Dm.Env}{o:Option Int}{Q:Option Int->Hp->Prop}(st:aW H0 H σ ρ)(e:Dm.part fo ρ=some (o,ρ'))(k:∀H0' H',ESt σ ρ H0 H ρ' H0' H'->Q o H') :
  (match fo with | none=>AF | some f=>HB (tD f)) σ H Q:=by
 cases fo with
 |none=>cases e;exact k H0 H (.refl st)
 |some f=>
  unfold Dm.part at e;dsimp only at e;split at e
  ·rename_i i ρ1 e1;cases e;exact⟨H0,ρ,_,_,st,e1,fun v H1 Hb t1 r1=>⟨i,Rep.isInt r1,k H1 Hb t1⟩⟩
  ·cases e
noncomputable abbrev tOf(fo:Option FE):TO:=match fo with | none=>AF | some f=>HB (tD f)
theorem Ti{K:gc}{lo hi:Option FE}(h:tD (Dm.eSl f lo hi) σ H Q):tSl (Qu K) (tD f) (tOf lo) (tOf hi) σ H Q:=by
 obtain⟨H0,ρ,x,ρ',st,e,k⟩:=h;unfold Dm.eSl at e;split at e
 ·cases e
 rename_i x1 ρ1 e1;split at e
 ·cases e
 rename_i l ρ2 e2;split at e
 ·cases e
 rename_i hh ρ3 e3;split at e
 ·rename_i ds p1;cases e;refine⟨H0,ρ,x1,ρ1,st,e1,fun v H1 Hb t1 r1=>?_⟩;refine EG t1.st e2 fun H2 Hc t2=>?_;refine EG t2.st e3 fun H3 Hd t3=>?_;have tt:=t1.trans (t2.trans t3);obtain⟨a,xs,rfl,qa,ra⟩:=ef t3.st.same ((r1.mono (t2.trans t3)).look t3.st p1);refine⟨a,xs,rfl,.inl qa,fun q hq=>?_⟩;have g:=bA.zI (o:=HO.lst (Dc xs l hh)) t3.st.same hq;refine k _ _ _ (tt.trans (.grow t3.st g)) ⟨q,rfl,tt.stp.gone hq,t3.st.nZ hq,t3.st.same.free hq,_,aL,F6 ra l hh⟩
 ·cases e
theorem Ij{lo hi:Option Expr}{flo fhi:Option FE}(h:DE X e f)(hl:PO X lo (tOf flo))(hh:PO X hi (tOf fhi)):DE X (.Subscript e (.Slice lo hi none p2) pos) (Dm.eSl f flo fhi):=PE.weak (HC KG h hl hh) fun _ _ _=>Ti
theorem o_n:PO X none (tOf none):=KA
theorem o_s(h:DE X e f):PO X (some e) (tOf (some f)):=Es h
end
end
section
variable{X:Cx}{nm:List Str}{ZL tg iter:Expr}{ZH:List Expr}{scope:Scope}{pos:Pos}{own:List Str}{fi:Dm.FI}{bd:Dm.FB}{is:List Nat}{t:FT}{f:FE}
noncomputable abbrev DTs(X:Cx)(ZH:List Expr)(t:FT):Prop:=PTs X ZH (tDT t)
theorem lq:DTs X [] Dm.bD:=fun Ju s σ H Q I h=>by obtain⟨H0,ρ,b,ρ',st,e,k⟩:=h;cases e;exact KN Ju s σ H Q I (k H0 H (.refl st))
structure TGc(X:Cx)(nm:List Str)(scope:Scope)(own:List Str)(tg:Expr)(is:List Nat)(bd:Dm.FB):Prop where
 ex:∃g,(∀cl C s H fp,PG (eX X nm scope own cl C s H fp) tg g)/\BD is g bd
theorem c_n(i:Nat){x:Str}{px:Pos}(hN:(nm++own).Nodup)(hi:(nm++own)[i]?=some x)(hx:(relabel scope X.env).names.lookup x=some .local):TGc X nm scope own (.Name x px) [i] (Dm.bN i):=
 ⟨⟨_,fun cl C s H fp=>AE (X:=eX X nm scope own cl C s H fp) hN hi (.inl hx) (.inr hx),EB i⟩⟩
theorem Ot(hc:X.calm=true)(S:qQ X nm scope)(hi:DI X tg iter fi)(hg:TGc X nm scope own tg is bd)(ht:∀cl C s H fp,DTs (eX X nm scope own cl C s H fp) ZH t)(he:∀cl C s H fp,DE (eX X nm scope own cl C s H fp) ZL f)
  (hl:∀i∈is,X.N.length<=i) (hs:∀x,foldedSetIterable iter X.env x=pure x:=by intro _;rfl):DE X (.ListComp ZL [⟨tg,iter,ZH,0⟩] scope pos) (Dm.nF fi own.length bd t f):=by
 obtain⟨g,h1,h2⟩:=hg.ex;intro Ju s σ H Q I h;exact EC hc S hi h1 ht he hs Ju s σ H Q I (HS h2 (fun i hi=>by rw[I.len];exact hl i hi) h)
end
theorem yf{H0:Hp}:∀{ds:List Dat} {bs:List Bool} {vs:List V},bz H0 vs ds->Dm.bools ds=some bs->vs=bs.map V.bl
 |[],bs,vs,r,e=>by cases r;cases e;rfl
 |.bl b::ds,bs,vs,r,e=>by
  cases r with
  |cons r rs=>
   unfold Dm.bools at e;cases q:Dm.bools ds with
   |none=>rw[q]at e;cases e
   |some cs=>rw[q]at e;cases e;cases Rep.zJ r;rw[yf rs q];rfl
 |.non::ds,bs,vs,r,e=>by cases e
 |.int _::ds,bs,vs,r,e=>by cases e
 |.str _::ds,bs,vs,r,e=>by cases e
 |.tup _::ds,bs,vs,r,e=>by cases e
 |.lst _::ds,bs,vs,r,e=>by cases e
 |.dct _ _::ds,bs,vs,r,e=>by cases e
 |.dcp _ _::ds,bs,vs,r,e=>by cases e
theorem Ou:CallD (fun xs H Q=>∃(a:Addr) (bs:List Bool),xs=[.ref a]/\Rd H a (.lst (bs.map V.bl))/\Q (.bl (bs.all id)) H) Dm.zH:=by
 intro H0 H vs ds z Q s rs e k;unfold Dm.zH at e;split at e
 ·split at e
  ·rename_i bs hb;cases e;cases rs with
   |cons r rr=>cases rr;obtain⟨a,us,rfl,qa,ra⟩:=ef s r;have:=yf ra hb;subst this;exact⟨a,bs,rfl,qa,k _ H0 H (bA.refl s) (.bl _)⟩
  ·cases e
 ·cases e
theorem K7:CallD (fun xs H Q=>∃a b c:Int,xs=[.int a,.int b,.int c]/\Q (.int (if b<a then (if c<b then c else b) else (if c<a then c else a))) H) Dm.cG:=by
 intro H0 H vs ds z Q s rs e k;unfold Dm.cG at e;split at e
 ·cases e;cases rs with
  |cons r rr=>
   cases rr with
   |cons r' rr=>
    cases rr with
    |cons r'' rr=>cases rr;cases bf r;cases bf r';cases bf r'';exact⟨_,_,_,rfl,k _ H0 H (bA.refl s) (.int _)⟩
 ·cases e
section
variable{X:Cx}{a b c e:Expr}{f:FE}{fs:List FE}{p p2 pos:Pos}
section
variable{σ:L2.St}{Q:VK}{K:gc}{H:Hp}
theorem vals3{x y z:V}{us:List Value}(r:Vals [x,y,z] us):∃u v w,us=[u,v,w]/\RelV x u/\RelV y v/\RelV z w:=by
 cases r with
 |cons r1 r=>
  cases r with
  |cons r2 r=>
   cases r with
   |cons r3 r=>cases r;exact⟨_,_,_,rfl,r1,r2,r3⟩
theorem F7(hc:X.calm=true):kH X (.builtin "min") (fun xs H Q=>∃a b c:Int,xs=[.int a,.int b,.int c]/\Q (.int (if b<a then (if c<b then c else b) else (if c<a then c else a))) H):=by
 intro Ju s σ H xs us Q I r h;obtain⟨i,j,l,rfl,q⟩:=h;obtain⟨u,v,w',rfl,⟨t,rfl⟩,⟨t',rfl⟩,⟨t'',rfl⟩⟩:=vals3 r;refine PySem.min_three_ints (I.ok.hd hc) fun h' tk k=>⟨_,H,I.kept k,?_,q⟩;by_cases h1:j<i
 ·rw[if_pos h1,if_pos h1];by_cases h2:l<j
  ·rw[if_pos h2,if_pos h2];exact⟨_,rfl⟩
  ·rw[if_neg h2,if_neg h2];exact⟨_,rfl⟩
 ·rw[if_neg h1,if_neg h1];by_cases h2:l<i
  ·rw[if_pos h2,if_pos h2];exact⟨_,rfl⟩
  ·rw[if_neg h2,if_neg h2];exact⟨_,rfl⟩
theorem EH(hc:X.calm=true)(hg:Gl X "all")(hm:X.mg "all" = none)(ha:DA X [e] fs)(he:starEach [e] X.env=[(false,eval e X.env)]:=by rfl)(RN:(backTo pos (starEach [] X.env)).any (·.1)=false:=by rfl) :
  DE X (.Call (.Name "all" p) [e] [] pos) (Dm.eB Dm.zH fs):=F2 (F5 hc) Ou (by rfl) hg hm ha (he:=he) (RN:=RN)
theorem Ov(hc:X.calm=true)(hg:Gl X "min")(hm:X.mg "min" = none)(ha:DA X [a,b,c] fs)(he:starEach [a,b,c] X.env=(false,eval a X.env)::starEach [b,c] X.env:=by rfl)(RN:(backTo pos (starEach [b,c] X.env)).any (·.1)=false:=by rfl) :
  DE X (.Call (.Name "min" p) [a,b,c] [] pos) (Dm.eB Dm.cG fs):=F2 (F7 hc) K7 (by rfl) hg hm ha (he:=he) (RN:=RN)
def MY:V->List V->Hp->VK->Prop:=fun x vs H Q=>∃i:Int,x=.int i/\vs=[]/\Q (.int (Dm.bits i)) H
theorem K8:MtR X "int.bit_length" MY:=by
 intro Ju s σ H x xs v us Q I rx rs h;obtain⟨i,rfl,rfl,q⟩:=h;cases rs;obtain⟨t,rfl⟩:=rx;refine PyProof.Rows.call_int_bit_length ?_;refine⟨.int (Dm.bits i),H,I.tok _,⟨s.toks,?_⟩,q⟩
 congr 1
 unfold Builtin.Int.intBits Dm.bits;by_cases h0:i=0
 ·subst h0;rfl
 ·have:(i == 0)=false:=by simpa using h0
  rw[if_neg h0,this];rfl
theorem Ow(h:tD (Dm.e1 Dm.bX f) σ H Q):Qv K "int" MY (tD f) σ H Q:=by
 obtain⟨H0,ρ,x,ρ',st,e,k⟩:=h;unfold Dm.e1 at e;split at e
 ·cases e
 rename_i x1 ρ1 e1;split at e
 ·cases e
 rename_i dx p1;split at e
 ·cases e
 rename_i z gz;unfold Dm.bX at gz;split at gz
 ·cases gz;cases e;refine⟨H0,ρ,x1,_,st,e1,fun v H1 Hb t1 r1=>?_⟩;cases bf (r1.look t1.st p1);exact⟨rfl,_,rfl,rfl,k _ H1 Hb t1 (Rep.int _)⟩
 ·cases gz
theorem Ox{ap cp:Pos}(h:DE X e f)(TQ:attributeBase e "bit_length" X.env (eval e X.env)=eval e X.env:=by rfl)(TN:(ap.endLine == cp.line)=true:=by rfl) :
  DE X (.Call (.Attribute e "bit_length" ap) [] [] cp) (Dm.e1 Dm.bX f):=
 PE.weak (N7 PySem.F.plainAttrs_int PySem.F.slot_int_bit_length PySem.F.type_int_bit_length K8 h TQ TN) fun _ _ _=>Ow
def Q7(K:gc)(te:TE):TE:=fun σ H Q=>te σ H fun x H1=>∃a xs,x=.ref a/\SqL K H1 a xs/\∀p,H1 p=none->Q (.ref p) (upd H1 p (.lst xs.reverse))
theorem Oz{te:TE}{k p3 p4}(he:PE X e te):PE X (.Subscript e (.Slice none none (some (.UnaryOp .USub (.Constant (.int 1) k p3) p4)) p2) pos) (Q7 X.K te):=by
 intro Ju s σ H Q I h;refine Subscript_ (thn (he Ju s σ H _ I h) fun v s1 h1=>?_);obtain⟨x,H1,I1,r1,a,xs,rfl,hx,q⟩:=h1;cases r1;refine wpAny_Slice ?_;rw[evalPart_none];refine wpAny_pure (wpAny_pure ?_);have hstep:=Es (X:=X) (MO (pos:=p4) Hw (G8 (i:=1) (j:=k) (pos:=p3) (X:=X)));refine thn (hstep Ju s1 σ H1 (fun o H'=>o=some (-1)/\H'=H1) I1 ⟨_,rfl,_,rfl,rfl,rfl⟩) fun vs s2 h2=>?_;obtain⟨o,H2,I2,ps,rfl,rfl⟩:=h2;have I3:Inv X Ju σ H2 { s2 with heap:=s2.heap.push { cls:=.type "slice",data:=.fields #[.none,.none,vs] } }:=I2.kept (t':=s2.toks) fun b ob q=>Dk _ q;obtain⟨its,r,ht,hz⟩:=I3.list hx;have RM:=r.length;have hg:wpAny (model X.prog X.w) X.A (getItem (.ref a) (.ref s2.heap.objs.size)) (EP X Ju σ Q) X.xe { s2 with heap:=s2.heap.push { cls:=.type "slice",data:=.fields #[.none,.none,vs] } }:=by refine wpAny_getItem_list_slice ht.isList (Heap.IsSliceOf.new ..) .none .none ps (by decide) ?_ (by rw[UE]<;>lia);rw[PySem.W.krv_pick,show its.toArray.toList.reverse.toArray=its.reverse.toArray by simp];refine⟨.ref _,_,I3.laid (t':=s2.toks) (o:=.lst xs.reverse) (fun b ob q=>Dk _ q) (Nat.le_refl _) ?_,rfl,q _ (I3.hok.fresh (Nat.le_refl _))⟩;exact⟨by rw[Xr];exact hz,_,0,r.reverse,UW _ rfl⟩
 show wpAny (model X.prog X.w) X.A (subscriptTail e (.Slice none none (some (.UnaryOp .USub (.Constant (.int 1) k p3) p4)) p2) (.ref a) (.ref s2.heap.objs.size)) (EP X Ju σ Q) X.xe _;exact tail_any (ops:=[.ref a,.ref s2.heap.objs.size]) ht.isList.typeIs slot_list_getitem.lookup hg (by with_unfolding_all rfl)
theorem Q8(h:tD (Dm.e1 Dm.gk f) σ H Q):Q7 K (tD f) σ H Q:=by
 obtain⟨H0,ρ,x,ρ',st,e,k⟩:=h;unfold Dm.e1 at e;split at e
 ·cases e
 rename_i x1 ρ1 e1;split at e
 ·cases e
 rename_i dx p1;split at e
 ·cases e
 rename_i z gz;unfold Dm.gk at gz;split at gz
 ·cases gz;cases e;refine⟨H0,ρ,x1,_,st,e1,fun v H1 Hb t1 r1=>?_⟩;obtain⟨a,xs,rfl,qa,ra⟩:=ef t1.st.same (r1.look t1.st p1);refine⟨a,xs,rfl,.inl qa,fun q hq=>?_⟩;have g:=bA.zI (o:=HO.lst xs.reverse) t1.st.same hq;exact k _ _ _ (t1.trans (.grow t1.st g)) ⟨q,rfl,t1.stp.gone hq,t1.st.nZ hq,t1.st.same.free hq,_,aL,ra.reverse⟩
 ·cases gz
theorem Q9{k p3 p4}(h:DE X e f):DE X (.Subscript e (.Slice none none (some (.UnaryOp .USub (.Constant (.int 1) k p3) p4)) p2) pos) (Dm.e1 Dm.gk f):=PE.weak (Oz h) fun _ _ _=>Q8
end
end
noncomputable def jX(sc:Scope):List Str->List Str->Bool
 |[],[]=>true
 |x::N,y::nm=>(x == y||(sc.names.lookup y).isNone)&&jX sc N nm
 |_,_=>false
theorem jX.len{sc:Scope}:∀{N nm:List Str},jX sc N nm=true->nm.length=N.length
 |[],[],_=>rfl
 |[],_::_,h=>by cases h
 |_::_,[],h=>by cases h
 |x::N,y::nm,h=>by rw[jX,U9]at h;rw[Ub,Ub,jX.len h.2]
theorem jX.at{sc:Scope}:∀{N nm:List Str},jX sc N nm=true->∀(i:Nat) (x:Str),nm[i]?=some x->N[i]?=some x\/sc.names.lookup x=none
 |[],[],_,i,x,e=>by simp at e
 |[],_::_,h,_,_,_=>by cases h
 |_::_,[],h,_,_,_=>by cases h
 |x::N,y::nm,h,0,z,e=>by
  rw[jX,U9,Bool.or_eq_true]at h;simp at e;subst e;rcases h.1 with q | q
  ·have:x=y:=by simpa using q
   subst this;exact .inl rfl
  ·exact .inr (by simpa using q)
 |x::N,y::nm,h,i+1,z,e=>by rw[jX,U9]at h;rw[PU]at e ⊢;exact jX.at h.2 i z e
noncomputable def EI(osc:Scope)(N nm:List Str)(sc:Scope):Bool:=
 sc.names.all (fun y=>y.2 != .cell)&&sc.names.all (fun y=>y.2 != .local||sc.names.lookup y.1 == some .local) &&
 sc.names.all (fun y=>y.2 != .free||(osc.names.lookup y.1 == some .cell||osc.names.lookup y.1 == some .free))&&nm.all (fun x=>sc.names.lookup x != some .local)&&jX sc N nm
theorem qQ.of{X:Cx}{nm:List Str}{scope:Scope}(h:EI X.env.scope X.N nm scope=true)(hk:scope.kind=.function):qQ X nm scope:=by
 unfold EI at h;simp only[U9,Vd]at h;obtain⟨⟨⟨⟨h1,h2⟩,h3⟩,h4⟩,h5⟩:=h;refine⟨hk,fun y hy=>?_,fun y hy hl=>?_,fun y hy hf=>?_,fun x hx=>?_,jX.len h5,jX.at h5⟩
 ·have:=h1 y hy;simpa using this
 ·have:=h2 y hy;rw[hl]at this
  simpa using this
 ·have:=h3 y hy;rw[hf]at this;have:(X.env.scope.names.lookup y.1 == some .cell||X.env.scope.names.lookup y.1 == some .free)=true:=by simpa using this
  rw[Bool.or_eq_true,beq_iff_eq,beq_iff_eq]at this;exact this
 ·have:=h4 x hx;simpa using this
section
variable{X:Cx}{ZL tg iter:Expr}{ZH:List Expr}{scope:Scope}{pos:Pos}{fi:Dm.FI}{bd:Dm.FB}{is:List Nat}{t:FT}{f:FE}
theorem MZ{l:List Nat}{n:Nat}(h:(l.all fun i=>decide (n<=i))=true):∀i∈l,n<=i:=fun i hi=>of_decide_eq_true (Vd.mp h i hi)
theorem OA(nm own:List Str)(hg:TGc X nm scope own tg is bd)(hi:DI X tg iter fi)(ht:∀cl C s H fp,DTs (eX X nm scope own cl C s H fp) ZH t)(he:∀cl C s H fp,DE (eX X nm scope own cl C s H fp) ZL f)
  (hc:X.calm=true:=by rfl) (hk:scope.kind=.function:=by rfl) (hS:EI X.env.scope X.N nm scope=true:=by rfl) (hl:(is.all fun i=>decide (X.N.length<=i))=true:=by rfl) (hs:∀x,foldedSetIterable iter X.env x=pure x:=by intro _;rfl) :
  DE X (.ListComp ZL [⟨tg,iter,ZH,0⟩] scope pos) (Dm.nF fi own.length bd t f):=Ot hc (qQ.of hS hk) hi hg ht he (MZ hl) hs
end
section
variable{f:FE}{a:Addr}{X:Cx}{K:gc}{H:Hp}
theorem PI.or{tg it:Expr}{t t':TI}(h:PI X tg it t)(h':PI X tg it t'):PI X tg it (fun σ H R=>t σ H R\/t' σ H R):=fun Ju s σ H R I q=>q.elim (h Ju s σ H R I) (h' Ju s σ H R I)
theorem Q_{σ:L2.St}{R:It->Hp->Prop}(h:tDI (Dm.iS f) σ H R):BB K (tD f) σ H R\/Hr K (tD f) σ H R:=by
 obtain⟨H0,ρ,ys,ρ',st,e,k⟩:=h;unfold Dm.iS at e;split at e
 ·cases e
 rename_i x ρ1 e1;split at e
 ·rename_i ds ρ2 e2;cases e;exact .inl (S6 ⟨H0,ρ,_,_,st,by unfold Dm.iL;rw[e1];dsimp only;rw[e2],k⟩)
 ·rename_i ds ρ2 e2;cases e;exact .inr (S7 ⟨H0,ρ,_,_,st,by unfold Dm.iT;rw[e1];dsimp only;rw[e2],k⟩)
 ·cases e
theorem i_S{tg e:Expr}(h:DE X e f):DI X tg e (Dm.iS f):=PI.weak (PI.or (Ep h) (Ht h)) fun _ _ _=>Q_
noncomputable def Ik(K:gc):Bool:=K.all fun p=>match p.2.cls with | .type n=>n != "list" | _=>true
theorem lookup_mem{o:Obj}:∀{K:List (Addr×Obj)},K.lookup a=some o->(a,o)∈K
 |[],h=>by cases h
 |(b,x)::r,h=>by
  rw[Vc]at h;cases q:a == b with
  |true=>
   rw[q]at h;cases h;have:a=b:=by simpa using q
   rw[this];exact Uj
  |false=>rw[q]at h;exact Ue _ (lookup_mem h)
theorem OB{f:List Dat->Option RV}{ns:List Int}{E:XK}(hf:f [.lst (ns.map Dat.int)]=some (.val (.bl true)))(hK:Ik K=true)(hS:SqL K H a (ns.map V.int)) :
  spD f [.ref a] H (fun v _=>v=.bl true) E:=by
 have hq:Rd H a (.lst (ns.map V.int)):=by
  rcases hS with h | ⟨o,its,n,hk,hc,_⟩
  ·exact h
  ·have:=Vd.mp hK _ (lookup_mem hk);dsimp only at this;rw[hc]at this;exact absurd this (by decide)
 have hr:∀ns:List Int,bz H (ns.map V.int) (ns.map Dat.int):=fun ns=>by
  induction ns with
  |nil=>exact .nil
  |cons n ns ih=>exact .cons (.int n) ih
 exact⟨H,_,_,bg.refl _,.cons (.lst hq (hr ns)) .nil,hf,fun v H0' H' _ r=>Rep.zJ r⟩
end
end Br
namespace Dm
noncomputable def g9(i:Nat)(own:Nat)(bd:FB)(t:FT)(el:FE):FE:=fun ρ=>match ρ[i]? with
 | some (.ow (.lst ds))=>if ds.length≤SZ then (match nX bd t el ds (ρ.set i .un++fj own .un) [] with
  |none=>none
  |some (ys,ρ2)=>some (.new (.lst ys),(ρ2.take ρ.length).set i (.ow (.lst ds)))) else none
 |_=>nF (iS (eV i)) own bd t el ρ
end Dm
namespace Br
open PySem PySem.Spec PyProof.Rows L2
theorem Il{K:gc}{H0:Hp}{a:Addr}{xs:List V}{ds:List Dat}(rs:bz H0 xs ds):JWa (Itl K a) H0 (some (a,.lst xs)) ds:=by intro H0' H s0 s1 hq;have hq:=hq _ rfl;have q:SqL K H a xs:=.inl (.inl hq);refine⟨fun i hi=>⟨xs,q,by rw[rs.length];exact hi⟩,fun i d e=>?_⟩;obtain⟨v,hv,rv⟩:=rs.get e;refine⟨⟨xs,v,q,hv⟩,fun x H' y=>?_⟩;obtain⟨e1,y⟩:=y;subst e1;have z:=y xs q;rw[hv]at z;cases z;exact⟨H0',bA.refl s1,rv.mono s0⟩
theorem K9{K:gc}{σ:L2.St}{H:Hp}{i own:Nat}{bd:Dm.FB}{g:TG}{t:FT}{el:FE}{is:List Nat}{Q:VK}(hb:BD is g bd)(hl:∀i∈is,σ.length<=i)(h:tD (Dm.g9 i own bd t el) σ H Q) :
  tLC (fun σ H R=>BB K (tD (Dm.eV i)) σ H R\/Hr K (tD (Dm.eV i)) σ H R) own g (tDT t) (tD el) σ H Q:=by
 obtain⟨H0,ρ,x,ρ',st,e,k⟩:=h;unfold Dm.g9 at e;split at e
 ·rename_i ds eo;split at e
  case isFalse=>cases e
  rename_i hsz;split at e
  ·cases e
  rename_i ys ρ2 e2;cases e;refine .inl ⟨H0,ρ,.slot i,ρ,st,by unfold Dm.eV;rw[eo],fun v H0' H' t1 r=>?_⟩;obtain⟨a,qa,na,xs,ha,rs⟩:=t1.st.ow i _ eo;obtain⟨r1,_⟩:=r;rw[qa]at r1;cases r1;have nO:¬aV σ (ρ.set i .un) a:=fun z=>by obtain⟨j,d,hj,h1,h2⟩:=mH z;exact hj (t1.st.dis j i d _ a h1 eo h2 qa)
  have RO:i<ρ.length:=(UT.mp eo).1;refine⟨a,rfl,⟨xs,.inl (.inl ha)⟩,fun D hD=>BP hb hl (t1.st.mask i) (fun q e=>by cases e;exact⟨ha,na,nO⟩) (Il rs) hsz e2 (fun v H1 Hc t2 r2 hpa=>?_) D hD⟩;obtain⟨ha2,na2⟩:=hpa _ rfl;rw[Vv]at t2 r2;have oo:∀b,aV σ ((ρ2.take ρ.length).set i (.ow (.lst ds))) b->b=a\/aV σ (ρ2.take ρ.length) b:=fun b ⟨j,d,h1,h2⟩=>by
   by_cases q:i=j
   ·subst q;rw[qa]at h2;cases h2;exact .inl rfl
   ·rw[gV q]at h1;exact .inr ⟨j,d,h1,h2⟩
  have om:∀b,aV σ (ρ.set i .un) b->aV σ ρ b:=fun b z=>by obtain⟨j,d,hj,h1,h2⟩:=mH z;exact⟨j,d,h1,h2⟩
  have oa:aV σ ρ a:=⟨i,_,eo,qa⟩
  have nO2:¬aV σ (ρ2.take ρ.length) a:=fun z=>nO (t2.own a z);have Im:(ρ2.take ρ.length).length=ρ.length:=by rw[<- t2.st.len,st.len]
  refine k v H1 Hc (t1.trans ⟨⟨t2.st.same,by rw[Vv];exact t2.st.len,fun j d h=>?_,fun j d h=>?_,fun j j' d d' b h1 h2 h3 h4=>?_⟩,t2.stp.wide om,fun b z=>?_,fun j z=>?_⟩) ?_
  ·by_cases q:i=j
   ·subst q;rw[U1 (by rw[Im];exact RO)]at h;cases h
   ·rw[gV q]at h;exact t2.st.sh j d h
  ·by_cases q:i=j
   ·subst q;rw[U1 (by rw[Im];exact RO)]at h;cases h;exact⟨a,qa,na2,xs,ha2,rs.mono t2.stp.s0⟩
   ·rw[gV q]at h;exact t2.st.ow j d h
  ·by_cases q:i=j
   ·subst q;by_cases q':i=j'
    ·exact q'
    ·rw[gV q']at h2;rw[qa]at h3;cases h3;exact absurd ⟨j',d',h2,h4⟩ nO2
   ·rw[gV q]at h1;by_cases q':i=j'
    ·subst q';rw[qa]at h4;cases h4;exact absurd ⟨j,d,h1,h3⟩ nO2
    ·rw[gV q']at h2;exact t2.st.dis j j' d d' b h1 h2 h3 h4
  ·rcases oo b z with rfl | z
   ·exact oa
   ·exact om b (t2.own b z)
  ·trivial
  ·obtain⟨D',e',n',no',n0',w'⟩:=r2;refine⟨D',e',t1.stp.gone n',fun z=>?_,n0',w'⟩;rcases oo D' z with rfl | z
   ·rw[n']at ha;cases ha
   ·exact no' z
 ·have h2:=HS (fi:=Dm.iS (Dm.eV i)) hb hl ⟨H0,ρ,x,ρ',st,e,k⟩;exact Q_ h2
section
variable{X:Cx}{ZL tg:Expr}{ZH:List Expr}{scope:Scope}{pos px:Pos}{bd:Dm.FB}{is:List Nat}{t:FT}{f:FE}{x:Str}
theorem i_M(i:Nat)(h:DE X (.Name x px) (Dm.eV i)):PI X tg (.Name x px) (fun σ H R=>BB X.K (tD (Dm.eV i)) σ H R\/Hr X.K (tD (Dm.eV i)) σ H R):=PI.or (Ep h) (Ht h)
theorem yg(i:Nat)(nm own:List Str)(hg:TGc X nm scope own tg is bd)(hi:DE X (.Name x px) (Dm.eV i))(ht:∀cl C s H fp,DTs (eX X nm scope own cl C s H fp) ZH t)(he:∀cl C s H fp,DE (eX X nm scope own cl C s H fp) ZL f)
  (hc:X.calm=true:=by rfl) (hk:scope.kind=.function:=by rfl) (hS:EI X.env.scope X.N nm scope=true:=by rfl) (hl:(is.all fun i=>decide (X.N.length<=i))=true:=by rfl) (hs:∀y,foldedSetIterable (.Name x px) X.env y=pure y:=by intro _;rfl) :
  DE X (.ListComp ZL [⟨tg,.Name x px,ZH,0⟩] scope pos) (Dm.g9 i own.length bd t f):=by
 obtain⟨g,h1,h2⟩:=hg.ex;intro Ju s σ H Q I h;exact EC hc (qQ.of hS hk) (i_M i hi) h1 ht he hs Ju s σ H Q I (K9 h2 (fun i hi=>by rw[I.len];exact MZ hl i hi) h)
end
end Br
namespace Dm
noncomputable def eDn:FE:=fun ρ=>some (.new (.dct [] []),ρ)
end Dm
namespace Br
open PySem PySem.Spec PyProof.Rows L2
section
variable{σ:L2.St}{H:Hp}{Q:VK}{D:Ends}
theorem Tj(h:tD Dm.eDn σ H Q):HJ σ H Q:=by obtain⟨H0,ρ,x,ρ',st,e,k⟩:=h;cases e;intro p hp;have g:=bA.zI (o:=HO.dK []) st.same hp;exact k _ _ _ (.grow st g) ⟨p,rfl,hp,st.nZ hp,st.same.free hp,[],aL,rfl,.nil⟩
end
section
variable{X:Cx}{a b e:Expr}{fa fb f:FE}{pos:Pos}{k:Nat}
theorem Ra:DE X (.Dict [] [] pos) Dm.eDn:=PE.weak HK fun _ _ _=>Tj
end
end Br
namespace Dm
noncomputable def nK:List Dat->Option (List Int)
 |[]=>some []
 |.int i::r=>(nK r).map fun ns=>i::ns
 |_=>none
end Dm
namespace Br
open PySem PySem.Spec PyProof.Rows L2
theorem intsAre_of:∀{ns:List Int} {its:List Value},Vals (ns.map V.int) its->IntsAre its ns
 |[],_,r=>by cases r;exact .nil
 |n::ns,_,r=>by
  rw[Uc]at r;cases r with
  |cons h t=>obtain⟨tk,rfl⟩:=h;exact .cons _ _ (intsAre_of t)
theorem BR{H0:Hp}:∀{ds:List Dat} {xs:List V} {ns:List Int},bz H0 xs ds->Dm.nK ds=some ns->xs=ns.map V.int
 |[],_,ns,r,e=>by cases r;cases e;rfl
 |d::ds,_,ns,r,e=>by
  cases r with
  |cons h t=>
   cases d with
   |int i=>
    unfold Dm.nK at e;cases q:Dm.nK ds with
    |none=>rw[q]at e;cases e
    |some ms=>rw[q]at e;cases e;cases Rep.isInt h;rw[BR t q];rfl
   |_=>cases e
end Br
namespace Ts
open PySem PyProof.Rows
variable{M:Model}{A:Around}{E:Value->Shared->Prop}{s:Shared}{κ:KeyKind}{kd:SortKind}{a₀:Array Keyed}
def mJ(M:Model)(A:Around)(E:Value->Shared->Prop)(s:Shared)(κ:KeyKind)(kd:SortKind):Prop:=
 ∀(x y:Keyed) (a b:κ.α) (st:SortSt) (Q:Option Bool->SortSt->Prop),κ.keyOf x.1=some a->κ.keyOf y.1=some b->kindOf st=kd->Q (some (κ.blt a b)) st->wpS M A E s (lt' x y) Q st
structure SB(kd:SortKind)(a₀:Array Keyed)(st:SortSt):Prop where
 perm:(arrOf st).Perm a₀
 kind:kindOf st=kd
 failed:failedOf st=none
theorem SB.size{st:SortSt}(h:SB kd a₀ st):(arrOf st).size=a₀.size:=h.perm.size_eq
theorem SB.arr{st:SortSt}(h:SB kd a₀ st){xs:Array Keyed}(hp:xs.Perm (arrOf st)):SB kd a₀ (setArr st xs):=⟨hp.trans h.perm,h.kind,h.failed⟩
theorem SB.pend{st:SortSt}(h:SB kd a₀ st)(p:Array (Nat×Nat×Nat)):SB kd a₀ (setPending st p):=⟨h.perm,h.kind,h.failed⟩
theorem SB.keys{st:SortSt}(h:SB kd a₀ st)(h0:KeysOf κ a₀):KeysOf κ (arrOf st):=fun p hp=>h0 p ((V2.mp h.perm).mem_iff.mp hp)
theorem lu{xs:Array Keyed}(h:KeysOf κ xs){i:Nat}(hi:i<xs.size):∃p,xs[i]?=some p/\κ.keyOf p.1=some (KK κ xs i):=by refine⟨xs[i],getElem?_pos xs i hi,?_⟩;obtain⟨a,e⟩:=h xs[i] (by simp);unfold KK;rw[getElem?_pos xs i hi];dsimp only;rw[e];rfl
theorem Ae(hL:mJ M A E s κ kd){st:SortSt}(hB:SB kd a₀ st)(h0:KeysOf κ a₀){i j:Nat}(hi:i<a₀.size)(hj:j<a₀.size){Q:Option Bool->SortSt->Prop}
  (h:Q (some (κ.blt (KK κ (arrOf st) i) (KK κ (arrOf st) j))) st):wpS M A E s (ltAt' i j) Q st:=by
 obtain⟨p,ep,kp⟩:=lu (hB.keys h0) (i:=i) (by rw[hB.size];exact hi);obtain⟨q,eq,kq⟩:=lu (hB.keys h0) (i:=j) (by rw[hB.size];exact hj);rw[ltAt'_eq];refine wpS_bind (wpS_get ?_);show wpS _ _ _ _ (elem' (arrOf st) i >>= fun x=>elem' (arrOf st) j >>= fun y=>lt' x y) Q st;rw[elem'_eq,elem'_eq,ep,eq];exact wpS_bind (wpS_pure (wpS_bind (wpS_pure (hL p q _ _ st Q kp kq hB.kind h))))
def Seg(κ:KeyKind)(xs:Array Keyed)(i j:Nat):Prop:=∀p q,i<=p->p<=q->q<j->κ.kle (KK κ xs p) (KK κ xs q)
def F8(κ:KeyKind)(xs:Array Keyed)(i j:Nat):Prop:=∀p q,i<=p->p<=q->q<j->κ.kle (KK κ xs q) (KK κ xs p)
def Out(xs ys:Array Keyed)(i j:Nat):Prop:=∀k,(k<i\/j<=k)->ys[k]?=xs[k]?
theorem Out.refl(xs:Array Keyed)(i j:Nat):Out xs xs i j:=fun _ _=>rfl
theorem Out.trans{xs ys zs:Array Keyed}{i j:Nat}(h:Out xs ys i j)(h':Out ys zs i j):Out xs zs i j:=fun k hk=>(h' k hk).trans (h k hk)
theorem Out.mono{xs ys:Array Keyed}{i j i' j':Nat}(h:Out xs ys i j)(h1:i'<=i)(h2:j<=j'):Out xs ys i' j':=fun k hk=>h k (by lia)
theorem Out.seg{xs ys:Array Keyed}{i j p q:Nat}(h:Out xs ys i j)(h':q<=i\/j<=p)(g:Seg κ xs p q):Seg κ ys p q:=fun a b ha ZM hb=>by rw[KK_congr (h a (by lia)),KK_congr (h b (by lia))];exact g a b ha ZM hb
theorem mK{xs:Array Keyed}{i j:Nat}(hj:j<=xs.size):Out xs (mirror xs i j ((j-i) / 2)) i j:=fun k hk=>by rw[getElem?_mirror_all hj,if_neg (by lia)]
theorem Dj{xs:Array Keyed}{src d:Nat}(hs:src<xs.size)(hd:d<=src):Out xs (bubble xs src d) (src-d) (src+1):=fun k hk=>by rw[getElem?_bubble hs d hd,if_neg (by lia),if_neg (by lia)]
theorem OC(hL:mJ M A E s κ kd)(h0:KeysOf κ a₀){st:SortSt}(hB:SB kd a₀ st){lo n ok:Nat}(hn:lo+n<=a₀.size)(h1:1<=ok)(hok:ok<=n)(hs:Seg κ (arrOf st) lo (lo+ok)){Q:Bool->SortSt->Prop}
  (h:∀xs,xs.Perm (arrOf st)->Seg κ xs lo (lo+n)->Out (arrOf st) xs lo (lo+n)->Q true (setArr st xs)):wpS M A E s (binarySort' lo n ok) Q st:=by
 rw[binarySort'_eq];refine wpS_bind (wpS_mono (wpS_forRange (I:=fun k c st'=>c=(none,())/\∃xs,st'=setArr st xs/\xs.Perm (arrOf st)/\Seg κ xs lo (lo+k)/\Out (arrOf st) xs lo (lo+n)) (Q:=fun c st'=>c=(none,())/\∃xs,st'=setArr st xs/\xs.Perm (arrOf st)/\Seg κ xs lo (lo+n)/\Out (arrOf st) xs lo (lo+n)) ?step ?R1 ?ini) ?post)
 case ini=>refine⟨rfl,arrOf st,rfl,Array.Perm.refl _,?_,Out.refl _ _ _⟩;rw[show max ok 1=ok by lia];exact hs
 case R1=>rintro c st' ⟨rfl,xs,rfl,hp,hsg,ho⟩;rw[show max (max ok 1) n=n by lia]at hsg;exact⟨rfl,xs,rfl,hp,hsg,ho⟩
 case post=>rintro c st' ⟨rfl,xs,rfl,hp,hsg,ho⟩;exact wpS_pure (h xs hp hsg ho)
 case step=>
  rintro k c st' hk1 hk2 ⟨rfl,xs,rfl,hp,hsg,ho⟩;dsimp only;have hB':SB kd a₀ (setArr st xs):=hB.arr hp;have hsz:xs.size=a₀.size:=hB'.size;refine wpS_bind (wpS_mono (wpS_forRange (I:=fun i c st'=>∃ l r,c=(none,l,r)∧st'=setArr st xs∧l≤r∧r≤k∧r-l≤k-i∧(∀ p,p<l→κ.kle (KK κ xs (lo+p)) (KK κ xs (lo+k)))∧(∀ p,r≤p→p<k→κ.klt (KK κ xs (lo+k)) (KK κ xs (lo+p))))
   (Q:=fun c st'=>∃l,c=(none,l,l)/\st'=setArr st xs/\l<=k/\(∀p,p<l->κ.kle (KK κ xs (lo+p)) (KK κ xs (lo+k)))/\(∀p,l<=p->p<k->κ.klt (KK κ xs (lo+k)) (KK κ xs (lo+p)))) ?st2 ?fi2 ⟨0,k,rfl,rfl,U6 _,Nat.le_refl _,by lia,fun p hp=>by lia,fun p h1 h2=>by lia⟩) ?po2)
  case fi2=>
   rintro c st' ⟨l,r,rfl,rfl,h1,h2,h3,h4,h5⟩;have:l=r:=by lia
   subst this;exact⟨l,rfl,rfl,h2,h4,h5⟩
  case st2=>
   rintro i c st' _ hi ⟨l,r,rfl,rfl,h1,h2,h3,h4,h5⟩;dsimp only;by_cases hlr:l≥r
   ·rw[if_pos hlr];have:l=r:=by lia
    subst this;exact wpS_pure ⟨l,rfl,rfl,h2,h4,h5⟩
   ·rw[if_neg hlr];refine wpS_bind (Ae hL hB' h0 (by lia) (by lia) ?_);dsimp only;cases hb:κ.blt (KK κ (arrOf (setArr st xs)) (lo+k)) (KK κ (arrOf (setArr st xs)) (lo+(l+r) / 2))
    case true=>rw[if_pos rfl];refine wpS_pure ⟨l,(l+r) / 2,rfl,rfl,by lia,by lia,by lia,h4,fun p hp1 hp2=>?_⟩;exact KeyOrd.klt_of_klt_of_kle hb (hsg _ _ (by lia) (by lia) (by lia))
    case false=>rw[if_neg (by decide)];refine wpS_pure ⟨(l+r) / 2+1,r,rfl,rfl,by lia,h2,by lia,fun p hp1=>?_,h5⟩;exact VG (hsg _ _ (by lia) (by lia) (by lia)) hb
  case po2=>
   rintro c st' ⟨l,rfl,rfl,hlk,hlo,hhi⟩;dsimp only;rw[moveDown'_eq];have hd:lo+k-(lo+l)=k-l:=by lia
   have hsk:lo+k<xs.size:=by lia
   refine wpS_bind (wpS_modify (wpS_pure ⟨rfl,bubble xs (lo+k) (lo+k-(lo+l)),rfl,(bubble_perm _ _ _).trans hp,?_,ho.trans ((Dj hsk (by lia)).mono (by lia) (by lia))⟩));intro p q h1 h2 h3;rw[KK_bubble hsk (by lia),KK_bubble hsk (by lia)];rw[show lo+k-(lo+k-(lo+l))=lo+l by lia];by_cases hp1:p=lo+l
   ·rw[if_pos hp1];by_cases hq1:q=lo+l
    ·rw[if_pos hq1];exact VF _
    ·rw[if_neg hq1,if_pos (by lia)];have:=hhi (q-1-lo) (by lia) (by lia);rw[show lo+(q-1-lo)=q-1 by lia]at this;exact Vm this
   ·rw[if_neg hp1];by_cases hp2:lo+l<p/\p<=lo+k
    ·rw[if_pos hp2,if_neg (by lia),if_pos (by lia)];exact hsg _ _ (by lia) (by lia) (by lia)
    ·rw[if_neg hp2];by_cases hq1:q=lo+l
     ·rw[if_pos hq1];have:=hlo (p-lo) (by lia);rw[show lo+(p-lo)=p by lia]at this;exact this
     ·rw[if_neg hq1];by_cases hq2:lo+l<q/\q<=lo+k
      ·rw[if_pos hq2];exact hsg _ _ (by lia) (by lia) (by lia)
      ·rw[if_neg hq2];exact hsg _ _ (by lia) (by lia) (by lia)
end Ts
namespace Ts
open PySem PyProof.Rows
variable{M:Model}{A:Around}{E:Value->Shared->Prop}{s:Shared}{κ:KeyKind}{kd:SortKind}{a₀:Array Keyed}
noncomputable def upL(lo k nrem:Nat):StateT SortSt Sem (Option Nat):=do
 let mut m:=k
 for _ in [k:nrem] do
  let some c <- ltAt' (lo+m) (lo+m-1)
   |return none
  if c then break
  m:=m+1
 return some m
noncomputable def M0(lo k nrem:Nat):StateT SortSt Sem (Option Nat):=do
 rule "list.sort.descending-run"
 let mut m:=k+1
 let mut e:=0
 for _ in [k+1:nrem] do
  let some c <- ltAt' (lo+m) (lo+m-1)
   |return none
  if c then
   if e>0 then reverseSlice' (lo+m-(e+1)) (lo+m)
   e:=0
  else
   let some d <- ltAt' (lo+m-1) (lo+m)
    |return none
   if d then break
   e:=e+1
  m:=m+1
 if e>0 then reverseSlice' (lo+m-(e+1)) (lo+m)
 reverseSlice' lo (lo+m)
 let mut z:=m
 for _ in [m:nrem] do
  let some c <- ltAt' (lo+z) (lo+z-1)
   |return none
  if c then break
  z:=z+1
 return some z
theorem K_{xs:Array Keyed}{i:Nat}:Seg κ xs i (i+1):=fun p q a b c=>by
 have:p=q:=by lia
 subst this;exact VF _
theorem BS{xs:Array Keyed}{i n:Nat}(h:Seg κ xs i (i+n))(h1:1<=n)(hb:κ.kle (KK κ xs (i+n-1)) (KK κ xs (i+n))):Seg κ xs i (i+(n+1)):=fun p q a b c=>by
 by_cases hq:q<i+n
 ·exact h p q a b hq
 ·have:q=i+n:=by lia
  subst this;by_cases hp:p=i+n
  ·subst hp;exact VF _
  ·exact VG (h p (i+n-1) a (by lia) (by lia)) hb
theorem l7{xs:Array Keyed}{i n:Nat}(h:F8 κ xs i (i+n))(h1:1<=n)(hb:κ.kle (KK κ xs (i+n)) (KK κ xs (i+n-1))):F8 κ xs i (i+(n+1)):=fun p q a b c=>by
 by_cases hq:q<i+n
 ·exact h p q a b hq
 ·have:q=i+n:=by lia
  subst this;by_cases hp:p=i+n
  ·subst hp;exact VF _
  ·exact VG hb (h p (i+n-1) a (by lia) (by lia))
section
variable{prog:Program}{w:World}
theorem Rb(hL:mJ (model prog w) A E s κ kd)(h0:KeysOf κ a₀){st:SortSt}(hB:SB kd a₀ st){lo k nrem:Nat}(hn:lo+nrem<=a₀.size)(h1:1<=k)(hk:k<=nrem)(hs:Seg κ (arrOf st) lo (lo+k)){Q:Option Nat->SortSt->Prop}
  (h:∀n,k<=n->n<=nrem->Seg κ (arrOf st) lo (lo+n)->Q (some n) st):wpS (model prog w) A E s (upL lo k nrem) Q st:=by
 unfold upL;refine wpS_bind (wpS_mono (wpS_forRange (I:=fun i c st'=>c=(none,i)/\st'=st/\i<=nrem/\Seg κ (arrOf st) lo (lo+i)) (Q:=fun c st'=>∃n,c=(none,n)/\st'=st/\k<=n/\n<=nrem/\Seg κ (arrOf st) lo (lo+n)) ?st1 ?fi1 ⟨rfl,rfl,hk,hs⟩) ?po1)
 case fi1=>rintro c st' ⟨rfl,rfl,hle,hsg⟩;exact⟨_,rfl,rfl,by lia,hle,hsg⟩
 case st1=>
  rintro i c st' hi1 hi2 ⟨rfl,rfl,hle,hsg⟩;dsimp only;refine wpS_bind (Ae hL hB h0 (by lia) (by lia) ?_);dsimp only;cases hb:κ.blt (KK κ (arrOf st') (lo+i)) (KK κ (arrOf st') (lo+i-1))
  case true=>rw[if_pos rfl];exact wpS_pure ⟨i,rfl,rfl,hi1,hle,hsg⟩
  case false=>rw[if_neg (by decide)];exact wpS_pure ⟨rfl,rfl,by lia,BS hsg (by lia) hb⟩
 case po1=>rintro c st' ⟨n,rfl,rfl,h2,h3,h4⟩;exact wpS_pure (h n h2 h3 h4)
theorem AR{xs:Array Keyed}{i j:Nat}(hj:j<=xs.size)(he:∀k,i<=k->k<j->KK κ xs k=KK κ xs (j-1)):∀k,KK κ (mirror xs i j ((j-i) / 2)) k=KK κ xs k:=KK_mirror_equal hj he
theorem EJ(hL:mJ (model prog w) A E s κ kd)(h0:KeysOf κ a₀){st:SortSt}(hB:SB kd a₀ st){lo k nrem:Nat}(hn:lo+nrem<=a₀.size)(h1:1<=k)(hk:k<nrem)(hs:F8 κ (arrOf st) lo (lo+(k+1))){Q:Option Nat->SortSt->Prop}
  (h:∀n xs,1<=n->n<=nrem->xs.Perm (arrOf st)->Seg κ xs lo (lo+n)->Out (arrOf st) xs lo (lo+nrem)->Q (some n) (setArr st xs)):wpS (model prog w) A E s (M0 lo k nrem) Q st:=by
 unfold M0;refine wpS_bind (wpS_lift (wpAny_rule ⟨rfl,?_⟩));refine wpS_bind (wpS_mono (wpS_forRange
  (I:=fun i c st'=>∃e xs,c=(none,i,e)/\st'=setArr st xs/\i<=nrem/\xs.Perm (arrOf st)/\Out (arrOf st) xs lo (lo+nrem)/\F8 κ xs lo (lo+i)/\e+1<=i/\∀p,lo+i-(e+1)<=p->p<lo+i->KK κ xs p=KK κ xs (lo+i-1))
  (Q:=fun c st'=>∃e i xs,c=(none,i,e)/\st'=setArr st xs/\k+1<=i/\i<=nrem/\xs.Perm (arrOf st)/\Out (arrOf st) xs lo (lo+nrem)/\F8 κ xs lo (lo+i)/\e+1<=i/\∀p,lo+i-(e+1)<=p->p<lo+i->KK κ xs p=KK κ xs (lo+i-1)) ?st1 ?fi1 ?in1) ?po1)
 case in1=>exact⟨0,arrOf st,rfl,rfl,by lia,Array.Perm.refl _,Out.refl _ _ _,hs,by lia,fun p h2 h3=>by rw[show p=lo+(k+1)-1 by lia]⟩
 case fi1=>rintro c st' ⟨e,xs,rfl,rfl,h2,h3,h4,h5,h6,h7⟩;exact⟨e,_,xs,rfl,rfl,by lia,h2,h3,h4,h5,h6,h7⟩
 case st1=>
  rintro i c st' hi1 hi2 ⟨e,xs,rfl,rfl,h2,h3,h4,h5,h6,h7⟩;have hB':SB kd a₀ (setArr st xs):=hB.arr h3;have hsz:xs.size=a₀.size:=hB'.size;dsimp only;refine wpS_bind (Ae hL hB' h0 (by lia) (by lia) ?_);dsimp only;cases hb:κ.blt (KK κ (arrOf (setArr st xs)) (lo+i)) (KK κ (arrOf (setArr st xs)) (lo+i-1))
  case true=>
   rw[if_pos rfl];have hd:κ.kle (KK κ xs (lo+i)) (KK κ xs (lo+i-1)):=Vm hb;by_cases he:e>0
   ·rw[if_pos he,reverseSlice'_eq];have ke:=AR (κ:=κ) (xs:=xs) (i:=lo+i-(e+1)) (j:=lo+i) (by lia) h7;refine wpS_bind (wpS_modify (wpS_pure ⟨0,mirror xs (lo+i-(e+1)) (lo+i) ((lo+i-(lo+i-(e+1))) / 2),rfl,rfl,by lia,(mirror_perm _ _ _ _).trans h3,h4.trans ((mK (by lia)).mono (by lia) (by lia)),?_,by lia,fun p h8 h9=>by rw[show p=lo+(i+1)-1 by lia]⟩));have:=l7 h5 (by lia) hd;exact fun p q a b c=>by rw[ke,ke];exact this p q a b c
   ·rw[if_neg he];exact wpS_pure ⟨0,xs,rfl,rfl,by lia,h3,h4,l7 h5 (by lia) hd,by lia,fun p h8 h9=>by rw[show p=lo+(i+1)-1 by lia]⟩
  case false=>
   rw[if_neg (by decide)];refine wpS_bind (Ae hL hB' h0 (by lia) (by lia) ?_);dsimp only;cases hb2:κ.blt (KK κ (arrOf (setArr st xs)) (lo+i-1)) (KK κ (arrOf (setArr st xs)) (lo+i))
   case true=>rw[if_pos rfl];exact wpS_pure ⟨e,i,xs,rfl,rfl,hi1,h2,h3,h4,h5,h6,h7⟩
   case false=>
    rw[if_neg (by decide)];have heq:KK κ xs (lo+i-1)=KK κ xs (lo+i):=κ.total _ _ hb2 hb;refine wpS_pure ⟨e+1,xs,rfl,rfl,by lia,h3,h4,l7 h5 (by lia) hb2,by lia,fun p h8 h9=>?_⟩;rw[show lo+(i+1)-1=lo+i by lia];by_cases hp:p=lo+i
    ·rw[hp]
    ·rw[h7 p (by lia) (by lia),heq]
 case po1=>
  rintro c st' ⟨e,i,xs,rfl,rfl,hki,h2,h3,h4,h5,h6,h7⟩;have hB':SB kd a₀ (setArr st xs):=hB.arr h3;have hsz:xs.size=a₀.size:=hB'.size;dsimp only;have last:∀ys,ys.Perm xs->(∀p,KK κ ys p=KK κ xs p)->Out xs ys lo (lo+nrem)->wpS (model prog w) A E s (reverseSlice' lo (lo+i) >>= fun _=>upL lo i nrem) Q (setArr st ys):=fun ys hp hk hO=>by
   rw[reverseSlice'_eq];have T5:ys.size=a₀.size:=hp.size_eq.trans hsz;refine wpS_bind (wpS_modify ?_);have hB2:SB kd a₀ (setArr st (mirror ys lo (lo+i) ((lo+i-lo) / 2))):=hB.arr ((mirror_perm _ _ _ _).trans (hp.trans h3));refine Rb hL h0 hB2 hn (by lia) h2 (fun p q a b c=>?_) fun n h8 h9 h10=>?_
   ·show κ.kle (KK κ (mirror ys lo (lo+i) ((lo+i-lo) / 2)) p) (KK κ (mirror ys lo (lo+i) ((lo+i-lo) / 2)) q);rw[KK_mirror (by lia),KK_mirror (by lia),if_pos (by lia),if_pos (by lia),hk,hk];exact h5 _ _ (by lia) (by lia) (by lia)
   ·exact h n _ (by lia) h9 ((mirror_perm _ _ _ _).trans (hp.trans h3)) h10 ((h4.trans hO).trans ((mK (by lia)).mono (by lia) (by lia)))
  by_cases he:e>0
  ·rw[if_pos he];refine wpS_bind ?_;rw[reverseSlice'_eq];refine wpS_modify ?_;exact last (mirror xs (lo+i-(e+1)) (lo+i) ((lo+i-(lo+i-(e+1))) / 2)) (mirror_perm _ _ _ _) (AR (xs:=xs) (by lia) h7) ((mK (xs:=xs) (by lia)).mono (by lia) (by lia))
  ·rw[if_neg he];exact last xs (Array.Perm.refl _) (fun _=>rfl) (Out.refl _ _ _)
theorem AS(hL:mJ (model prog w) A E s κ kd)(h0:KeysOf κ a₀){st:SortSt}(hB:SB kd a₀ st){lo nrem:Nat}(hn:lo+nrem<=a₀.size)(h1:1<=nrem){Q:Option Nat->SortSt->Prop}
  (h:∀n xs,1<=n->n<=nrem->xs.Perm (arrOf st)->Seg κ xs lo (lo+n)->Out (arrOf st) xs lo (lo+nrem)->Q (some n) (setArr st xs)):wpS (model prog w) A E s (countRun' lo nrem) Q st:=by
 rw[countRun'_eq];refine wpS_bind (wpS_mono (wpS_forRange (I:=fun i c st'=>c=(none,i)∧st'=st∧i≤nrem∧Seg κ (arrOf st) lo (lo+i))
  (Q:=fun c st'=>∃n,c=(none,n)/\st'=st/\1<=n/\n<=nrem/\Seg κ (arrOf st) lo (lo+n)/\(n=nrem\/κ.klt (KK κ (arrOf st) (lo+n)) (KK κ (arrOf st) (lo+n-1)))) ?st1 ?fi1 ⟨rfl,rfl,h1,K_⟩) ?po1)
 case fi1=>rintro c st' ⟨rfl,rfl,hle,hsg⟩;exact⟨_,rfl,rfl,by lia,hle,hsg,.inl (by lia)⟩
 case st1=>
  rintro i c st' hi1 hi2 ⟨rfl,rfl,hle,hsg⟩;dsimp only;refine wpS_bind (Ae hL hB h0 (by lia) (by lia) ?_);dsimp only;cases hb:κ.blt (KK κ (arrOf st') (lo+i)) (KK κ (arrOf st') (lo+i-1))
  case true=>rw[if_pos rfl];exact wpS_pure ⟨i,rfl,rfl,hi1,hle,hsg,.inr hb⟩
  case false=>rw[if_neg (by decide)];exact wpS_pure ⟨rfl,rfl,by lia,BS hsg hi1 hb⟩
 case po1=>
  rintro c st' ⟨n,rfl,rfl,hn1,hle,hsg,hstop⟩;dsimp only;by_cases hnn:n=nrem
  ·rw[if_pos (by simpa using hnn)];exact wpS_pure (h n _ hn1 hle (Array.Perm.refl _) hsg (Out.refl _ _ _))
  ·rw[if_neg (by simpa using hnn)];have RO:κ.klt (KK κ (arrOf st') (lo+n)) (KK κ (arrOf st') (lo+n-1)):=hstop.resolve_left hnn;by_cases hn2:n>1
   ·rw[if_pos hn2];refine wpS_bind (Ae hL hB h0 (by lia) (by lia) ?_);dsimp only;cases hb:κ.blt (KK κ (arrOf st') lo) (KK κ (arrOf st') (lo+n-1))
    case true=>rw[if_pos rfl];exact wpS_pure (h n _ hn1 hle (Array.Perm.refl _) hsg (Out.refl _ _ _))
    case false=>
     rw[if_neg (by decide)];have hsz:=hB.size;have OD:∀p,lo<=p->p<lo+n->KK κ (arrOf st') p=KK κ (arrOf st') (lo+n-1):=fun p h2 h3=>KeyOrd.kle_antisymm (hsg p _ h2 (by lia) (by lia)) (VG hb (hsg lo p (by lia) h2 h3))
     have ke:=AR (κ:=κ) (xs:=arrOf st') (i:=lo) (j:=lo+n) (by lia) OD;refine wpS_bind ?_;rw[reverseSlice'_eq];refine wpS_modify ?_;have hB2:SB kd a₀ (setArr st' (mirror (arrOf st') lo (lo+n) ((lo+n-lo) / 2))):=hB.arr (mirror_perm _ _ _ _);refine EJ hL h0 hB2 hn hn1 (by lia) ?_ fun m xs h2 h3 h4 h5 h6=>?_
     ·have:F8 κ (arrOf st') lo (lo+(n+1)):=l7 (fun p q a b c=>by rw[OD p a (by lia),OD q (by lia) c];exact VF _) hn1 (Vm RO);intro p q a b c;show κ.kle (KK κ (mirror (arrOf st') lo (lo+n) ((lo+n-lo) / 2)) q) (KK κ (mirror (arrOf st') lo (lo+n) ((lo+n-lo) / 2)) p);rw[ke,ke];exact this p q a b c
     ·exact h m xs h2 h3 (h4.trans (mirror_perm _ _ _ _)) h5 (((mK (by lia)).mono (by lia) (by lia)).trans h6)
   ·rw[if_neg hn2];have:n=1:=by lia
    subst this;refine EJ hL h0 hB hn hn1 (by lia) ?_ h;exact l7 (fun p q a b c=>by
     have:p=q:=by lia
     subst this;exact VF _) hn1 (Vm RO)
end
end Ts
namespace Ts
open PySem PyProof.Rows
variable{M:Model}{A:Around}{E:Value->Shared->Prop}{s:Shared}{κ:KeyKind}{kd:SortKind}{a₀:Array Keyed}
noncomputable def wJ:Bool->Keyed->Array Keyed->Nat->Nat->Nat->StateT SortSt Sem (Option Nat):=sortPriv% PySem.Builtin.gallop
noncomputable def bey(left:Bool)(x:Keyed)(xs:Array Keyed)(i:Nat):StateT SortSt Sem (Option Bool):=do
 let y <- elem' xs i
 if left then lt' y x
 else
  let c <- lt' x y
  return c.map (!·)
theorem OE(left:Bool)(x:Keyed)(xs:Array Keyed)(b n hint:Nat):wJ left x xs b n hint=(do
  let mut l:=0
  let mut o:=1
  let mut u:=0
  let mut v:=0
  let some c <- bey left x xs (b+hint)
   |return none
  if c then
   let m:=n-hint
   for _ in [0:n] do
    if o≥m then break
    let some d <- bey left x xs (b+(hint+o))
     |return none
    if !d then break
    l:=o
    o:=2*o+1
   u:=hint+l+1
   v:=hint+min o m
  else
   let m:=hint+1
   for _ in [0:n] do
    if o≥m then break
    let some d <- bey left x xs (b+(hint-o))
     |return none
    if d then break
    l:=o
    o:=2*o+1
   u:=hint+1-min o m
   v:=hint-l
  for _ in [0:n] do
   if u≥v then break
   let z:=u+(v-u) / 2
   let some d <- bey left x xs (b+z)
    |return none
   if d then u:=z+1
   else v:=z
  return some v):=rfl
noncomputable def pass(κ:KeyKind)(left:Bool)(k:κ.α)(xs:Array Keyed)(i:Nat):Bool:=if left then κ.blt (KK κ xs i) k else !κ.blt k (KK κ xs i)
theorem F9{left:Bool}{k:κ.α}{xs:Array Keyed}{i j:Nat}(h:κ.kle (KK κ xs i) (KK κ xs j))(hp:pass κ left k xs j=true):pass κ left k xs i=true:=by
 unfold pass at hp ⊢;cases left with
 |true=>exact KeyOrd.klt_of_kle_of_klt h hp
 |false=>
  have hp':κ.blt k (KK κ xs j)=false:=by simpa using hp
  have:κ.blt k (KK κ xs i)=false:=by
   cases hb:κ.blt k (KK κ xs i)
   ·rfl
   ·have:=KeyOrd.klt_of_klt_of_kle (O:=κ.toKeyOrd) hb h;rw[show κ.klt k (KK κ xs j)=(κ.blt k (KK κ xs j)=true) from rfl,hp']at this;cases this
  simp[this]
theorem AU(hL:mJ M A E s κ kd){left:Bool}{x:Keyed}{k:κ.α}{xs:Array Keyed}{i:Nat}{st:SortSt}(hx:κ.keyOf x.1=some k)(hk:KeysOf κ xs)(hi:i<xs.size)(hd:kindOf st=kd){Q:Option Bool->SortSt->Prop}
  (h:Q (some (pass κ left k xs i)) st):wpS M A E s (bey left x xs i) Q st:=by
 obtain⟨p,ep,kp⟩:=lu hk hi;unfold bey;rw[elem'_eq,ep];refine wpS_bind (wpS_pure ?_);unfold pass at h;cases left with
 |true=>exact hL p x _ _ st Q kp hx hd h
 |false=>exact wpS_bind (hL x p _ _ st _ hx kp hd (wpS_pure h))
noncomputable def Rc(left:Bool)(x:Keyed)(xs:Array Keyed)(b n u0 v0:Nat):StateT SortSt Sem (Option Nat):=do
 let mut u:=u0
 let mut v:=v0
 for _ in [0:n] do
  if u≥v then break
  let z:=u+(v-u) / 2
  let some d <- bey left x xs (b+z)
   |return none
  if d then u:=z+1
  else v:=z
 return some v
theorem Io(hL:mJ M A E s κ kd){left:Bool}{x:Keyed}{k:κ.α}{xs:Array Keyed}{b n u0 v0:Nat}{st:SortSt}(hx:κ.keyOf x.1=some k)(hk:KeysOf κ xs)(hb:b+n<=xs.size)(hd:kindOf st=kd)
  (up:∀i j,i<=j->j<n->pass κ left k xs (b+j)=true->pass κ left k xs (b+i)=true) (dn:∀i j,i<=j->j<n->pass κ left k xs (b+i)=false->pass κ left k xs (b+j)=false)
  (huv:u0<=v0) (hv:v0<=n) (hu1:∀i,i<u0->pass κ left k xs (b+i)=true) (hv1:∀i,v0<=i->i<n->pass κ left k xs (b+i)=false) {Q:Option Nat->SortSt->Prop}
  (h:∀m,m<=n->(∀i,i<m->pass κ left k xs (b+i)=true)->(∀i,m<=i->i<n->pass κ left k xs (b+i)=false)->Q (some m) st):wpS M A E s (Rc left x xs b n u0 v0) Q st:=by
 unfold Rc;refine wpS_bind (wpS_mono (wpS_forRange (I:=fun i c st'=>∃ u v,c=(none,u,v)∧st'=st∧u≤v∧v≤n∧v-u≤n-i∧(∀ i,i<u→pass κ left k xs (b+i)=true)∧(∀ i,v≤i→i<n→pass κ left k xs (b+i)=false))
  (Q:=fun c st'=>∃v,c=(none,v,v)/\st'=st/\v<=n/\(∀i,i<v->pass κ left k xs (b+i)=true)/\(∀i,v<=i->i<n->pass κ left k xs (b+i)=false)) ?s1 ?f1 ⟨u0,v0,rfl,rfl,huv,hv,by lia,hu1,hv1⟩) ?p1)
 case f1=>
  rintro c st' ⟨u,v,rfl,rfl,h1,h2,h3,h4,h5⟩;have:u=v:=by lia
  subst this;exact⟨u,rfl,rfl,h2,h4,h5⟩
 case s1=>
  rintro i c st' _ hi ⟨u,v,rfl,rfl,h1,h2,h3,h4,h5⟩;dsimp only;by_cases hu:u≥v
  ·rw[if_pos hu];have:u=v:=by lia
   subst this;exact wpS_pure ⟨u,rfl,rfl,h2,h4,h5⟩
  ·rw[if_neg hu];refine wpS_bind (AU hL hx hk (by lia) hd ?_);dsimp only;cases hp:pass κ left k xs (b+(u+(v-u) / 2))
   case true=>rw[if_pos rfl];exact wpS_pure ⟨u+(v-u) / 2+1,v,rfl,rfl,by lia,h2,by lia,fun j hj=>up j _ (by lia) (by lia) hp,h5⟩
   case false=>rw[if_neg (by decide)];exact wpS_pure ⟨u,u+(v-u) / 2,rfl,rfl,by lia,by lia,by lia,h4,fun j hj hj2=>dn _ j hj hj2 hp⟩
 case p1=>rintro c st' ⟨v,rfl,rfl,h2,h3,h4⟩;exact wpS_pure (h v h2 h3 h4)
theorem uZ(hL:mJ M A E s κ kd){left:Bool}{x:Keyed}{k:κ.α}{xs:Array Keyed}{b n hint:Nat}{st:SortSt}(hx:κ.keyOf x.1=some k)(hk:KeysOf κ xs)(hb:b+n<=xs.size)(hh:hint<n)(hs:Seg κ xs b (b+n))(hd:kindOf st=kd){Q:Option Nat->SortSt->Prop}
  (h:∀m,m<=n->(∀i,i<m->pass κ left k xs (b+i)=true)->(∀i,m<=i->i<n->pass κ left k xs (b+i)=false)->Q (some m) st):wpS M A E s (wJ left x xs b n hint) Q st:=by
 have up:∀i j,i<=j->j<n->pass κ left k xs (b+j)=true->pass κ left k xs (b+i)=true:=fun i j h1 h2=>F9 (hs _ _ (by lia) (by lia) (by lia));have dn:∀i j,i<=j->j<n->pass κ left k xs (b+i)=false->pass κ left k xs (b+j)=false:=fun i j h1 h2 h3=>by
  cases e:pass κ left k xs (b+j)
  ·rfl
  ·rw[up i j h1 h2 e]at h3;cases h3
 rw[OE];dsimp only;refine wpS_bind (AU hL hx hk (by lia) hd ?_);dsimp only;cases hc:pass κ left k xs (b+hint)
 case true=>
  rw[if_pos rfl];refine wpS_bind (wpS_mono (wpS_forRange (I:=fun i c st'=>∃ l o,c=(none,l,o)∧st'=st∧i+1≤o∧l<o∧hint+l<n∧pass κ left k xs (b+(hint+l))=true)
   (Q:=fun c st'=>∃l o,c=(none,l,o)/\st'=st/\l<o/\hint+l<n/\pass κ left k xs (b+(hint+l))=true/\(o<n-hint->pass κ left k xs (b+(hint+o))=false)) ?s1 ?f1 ⟨0,1,rfl,rfl,by lia,by lia,by lia,hc⟩) ?p1)
  case f1=>rintro c st' ⟨l,o,rfl,rfl,h1,h2,h3,h4⟩;exact⟨l,o,rfl,rfl,h2,h3,h4,fun z=>by lia⟩
  case s1=>
   rintro i c st' _ hi ⟨l,o,rfl,rfl,h1,h2,h3,h4⟩;dsimp only;by_cases ho:o≥n-hint
   ·rw[if_pos ho];exact wpS_pure ⟨l,o,rfl,rfl,h2,h3,h4,fun z=>by lia⟩
   ·rw[if_neg ho];refine wpS_bind (AU hL hx hk (by lia) hd ?_);dsimp only;cases hp:pass κ left k xs (b+(hint+o))
    case false=>rw[if_pos (by decide)];exact wpS_pure ⟨l,o,rfl,rfl,h2,h3,h4,fun _=>hp⟩
    case true=>rw[if_neg (by decide)];exact wpS_pure ⟨o,2*o+1,rfl,rfl,by lia,by lia,by lia,hp⟩
  case p1=>
   rintro c st' ⟨l,o,rfl,rfl,h2,h3,h4,h5⟩;dsimp only;refine Io hL hx hk hb hd up dn (u0:=hint+l+1) (v0:=hint+min o (n-hint)) (by lia) (by lia) (fun j hj=>up j _ (by lia) h3 h4) (fun j hj hj2=>?_) h;by_cases ho:o<n-hint
   ·exact dn (hint+o) j (by lia) hj2 (h5 ho)
   ·lia
 case false=>
  rw[if_neg (by decide)];refine wpS_bind (wpS_mono (wpS_forRange (I:=fun i c st'=>∃ l o,c=(none,l,o)∧st'=st∧i+1≤o∧l<o∧l≤hint∧pass κ left k xs (b+(hint-l))=false)
   (Q:=fun c st'=>∃l o,c=(none,l,o)/\st'=st/\l<o/\l<=hint/\pass κ left k xs (b+(hint-l))=false/\(o<hint+1->pass κ left k xs (b+(hint-o))=true)) ?s2 ?f2 ⟨0,1,rfl,rfl,by lia,by lia,by lia,hc⟩) ?p2)
  case f2=>rintro c st' ⟨l,o,rfl,rfl,h1,h2,h3,h4⟩;exact⟨l,o,rfl,rfl,h2,h3,h4,fun z=>by lia⟩
  case s2=>
   rintro i c st' _ hi ⟨l,o,rfl,rfl,h1,h2,h3,h4⟩;dsimp only;by_cases ho:o≥hint+1
   ·rw[if_pos ho];exact wpS_pure ⟨l,o,rfl,rfl,h2,h3,h4,fun z=>by lia⟩
   ·rw[if_neg ho];refine wpS_bind (AU hL hx hk (by lia) hd ?_);dsimp only;cases hp:pass κ left k xs (b+(hint-o))
    case true=>rw[if_pos rfl];exact wpS_pure ⟨l,o,rfl,rfl,h2,h3,h4,fun _=>hp⟩
    case false=>rw[if_neg (by decide)];exact wpS_pure ⟨o,2*o+1,rfl,rfl,by lia,by lia,by lia,hp⟩
  case p2=>
   rintro c st' ⟨l,o,rfl,rfl,h2,h3,h4,h5⟩;dsimp only;refine Io hL hx hk hb hd up dn (u0:=hint+1-min o (hint+1)) (v0:=hint-l) (by lia) (by lia) (fun j hj=>?_) (fun j hj hj2=>dn _ j hj hj2 h4) h;by_cases ho:o<hint+1
   ·exact up j (hint-o) (by lia) (by lia) (h5 ho)
   ·lia
end Ts
namespace Ts
open PySem PyProof.Rows
variable{M:Model}{A:Around}{E:Value->Shared->Prop}{s:Shared}{κ:KeyKind}{kd:SortKind}{a₀:Array Keyed}
section
variable{i:Nat}
noncomputable def OG:Array Keyed->Array Keyed->StateT SortSt Sem (Array Keyed):=sortPriv% PySem.Builtin.mergeLo
noncomputable def OH:Array Keyed->Array Keyed->StateT SortSt Sem (Array Keyed):=sortPriv% PySem.Builtin.mergeHi
noncomputable def setG(st:SortSt)(g:Nat):SortSt:=XQ (kindOf st) (arrOf st) (pendingOf st) g (failedOf st)
noncomputable def zL(g:Nat):StateT SortSt Sem Unit:=modify fun st=>XQ (kindOf st) (arrOf st) (pendingOf st) g (failedOf st)
theorem OI(a b:Array Keyed):OG a b=(do
  rule "list.sort.merge-lo"
  let t:=a.size+b.size
  let dn (o:Array Keyed) (i j:Nat):=o++a.extract i a.size++b.extract j b.size
  let la (o:Array Keyed) (i j:Nat):=o++b.extract j b.size++a.extract i a.size
  let mut o:Array Keyed:=#[<- elem' b 0]
  let mut i:=0
  let mut j:=1
  if j == b.size then return dn o i j
  if i+1 == a.size then return la o i j
  let mut g:=gallopOf (<- get)
  for _ in [0:t] do
   let mut ca:=0
   let mut cb:=0
   for _ in [0:t] do
    let some OJ <- lt' (<- elem' b j) (<- elem' a i)
     |return dn o i j
    if OJ then
     o:=o.push (<- elem' b j)
     j:=j+1
     cb:=cb+1
     ca:=0
     if j == b.size then return dn o i j
     if cb≥g then break
    else
     o:=o.push (<- elem' a i)
     i:=i+1
     ca:=ca+1
     cb:=0
     if i+1 == a.size then return la o i j
     if ca≥g then break
   rule "list.sort.gallop"
   g:=g+1
   for _ in [0:t] do
    if g>1 then g:=g-1
    zL g
    let some k <- wJ false (<- elem' b j) a i (a.size-i) 0
     |return dn o i j
    ca:=k
    if k>0 then
     o:=o++a.extract i (i+k)
     i:=i+k
     if i+1 == a.size then return la o i j
     if i == a.size then return dn o i j
    o:=o.push (<- elem' b j)
    j:=j+1
    if j == b.size then return dn o i j
    let some k <- wJ true (<- elem' a i) b j (b.size-j) 0
     |return dn o i j
    cb:=k
    if k>0 then
     o:=o++b.extract j (j+k)
     j:=j+k
     if j == b.size then return dn o i j
    o:=o.push (<- elem' a i)
    i:=i+1
    if i+1 == a.size then return la o i j
    if ca<7&&cb<7 then break
   g:=g+1
   zL g
  unsupported "internal:list.sort.merge-bound"):=rfl
noncomputable def kp(κ:KeyKind)(p:Keyed):κ.α:=(κ.keyOf p.1).getD κ.dflt
def le(κ:KeyKind)(x y:Keyed):Prop:=κ.kle (kp κ x) (kp κ y)
structure MI(κ:KeyKind)(o A B tot:List Keyed):Prop where
 so:o.Pairwise (le κ)
 oA:∀x∈o,∀y∈A,le κ x y
 oB:∀x∈o,∀y∈B,le κ x y
 sA:A.Pairwise (le κ)
 sB:B.Pairwise (le κ)
 pm:(o++(A++B)).Perm tot
def Done(κ:KeyKind)(tot r:List Keyed):Prop:=r.Perm tot/\r.Pairwise (le κ)
theorem MI.OL{o A1 A2 B tot:List Keyed}(h:MI κ o (A1++A2) B tot)(hl:∀x∈A1,∀y∈B,le κ x y):MI κ (o++A1) A2 B tot where
 so:=U5.mpr ⟨h.so,(U5.mp h.sA).1,fun x hx y hy=>h.oA x hx y (Va _ hy)⟩
 oA:=fun x hx y hy=>by
  rcases Uy.mp hx with hx | hx
  ·exact h.oA x hx y (UD _ hy)
  ·exact(U5.mp h.sA).2.2 x hx y hy
 oB:=fun x hx y hy=>by
  rcases Uy.mp hx with hx | hx
  ·exact h.oB x hx y hy
  ·exact hl x hx y hy
 sA:=(U5.mp h.sA).2.1
 sB:=h.sB
 pm:=by
  have:=h.pm
  rwa [VC,<- VC A1] 
theorem MI.swap{o A B tot:List Keyed}(h:MI κ o A B tot):MI κ o B A tot:=⟨h.so,h.oB,h.oA,h.sB,h.sA,(Xg o List.perm_append_comm).trans h.pm⟩
theorem MI.OM{o A B1 B2 tot:List Keyed}(h:MI κ o A (B1++B2) tot)(hl:∀x∈B1,∀y∈A,le κ x y):MI κ (o++B1) A B2 tot:=(h.swap.OL hl).swap
theorem MI.F_{o A tot:List Keyed}(h:MI κ o A [] tot):Done κ tot (o++A):=⟨by have:=h.pm;rwa [U3]at this,U5.mpr ⟨h.so,h.sA,h.oA⟩⟩
theorem MI.Ld{o B tot:List Keyed}(h:MI κ o [] B tot):Done κ tot (o++B):=h.swap.F_
theorem MI.Ip{o A B tot:List Keyed}(h:MI κ o A B tot)(hl:∀x∈B,∀y∈A,le κ x y):Done κ tot (o++B++A):=
 (MI.OM (B2:=[]) (by rw[U3];exact h) hl).F_
theorem xJ{a:Array Keyed}(h:i<a.size):a.toList.drop i=a[i]::a.toList.drop (i+1):=by rw[VD (by rw[Dp];exact h)];simp
theorem yh{a:Array Keyed}{i k:Nat}:a.toList.drop i=(a.extract i (i+k)).toList++a.toList.drop (i+k):=by rw[Vy,Vs,show i+k-i=k by lia,<- X7];exact(Vu k _).symm
theorem mL{a:Array Keyed}:(a.extract i a.size).toList=a.toList.drop i:=by rw[Vy,Vs,VB];rw[Wd,Dp];exact Nat.le_refl _
theorem dg{a:Array Keyed}(h:i<a.size):elem' a i=pure a[i]:=by rw[elem'_eq,getElem?_pos a i h]
theorem bY{xs:Array Keyed}(hk:KeysOf κ xs)(h:i<xs.size):κ.keyOf (xs[i]).1=some (kp κ xs[i])/\KK κ xs i=kp κ xs[i]:=by
 obtain⟨p,e,k⟩:=lu hk h;rw[getElem?_pos xs i h]at e;cases e;have:KK κ xs i=kp κ xs[i]:=by unfold kp;rw[k];rfl
 exact⟨by rw[k,this],this⟩
theorem Iq{xs:Array Keyed}(hk:KeysOf κ xs)(h:xs.toList.Pairwise (le κ)):Seg κ xs 0 xs.size:=fun p q _ h2 h3=>by
 rw[(bY hk (i:=p) (by lia)).2,(bY hk h3).2];by_cases e:p=q
 ·subst e;exact VF _
 ·have:=Vj.mp h p q (by simp;lia) (by simpa using h3) (by lia);have kY:le κ xs[p] xs[q]:=by simpa using this
  exact kY
theorem le_trans{x y z:Keyed}(h:le κ x y)(h':le κ y z):le κ x z:=VG h h'
theorem le_refl(x:Keyed):le κ x x:=VF _
theorem qm{a:Array Keyed}(h:i<a.size)(hs:(a.toList.drop i).Pairwise (le κ)):∀y∈a.toList.drop i,le κ a[i] y:=fun y hy=>by
 rw[xJ h]at hs hy;rcases Ui.mp hy with rfl | hy
 ·exact le_refl _
 ·exact(VM.mp hs).1 y hy
end
end Ts
namespace Ts
open PySem PyProof.Rows
variable{A:Around}{E:Value->Shared->Prop}{s:Shared}{κ:KeyKind}{kd:SortKind}{a₀:Array Keyed}{prog:Program}{w:World}
section
variable{a b:Array Keyed}
section
variable{i j:Nat}
def IM(κ:KeyKind)(a b o:Array Keyed)(i j:Nat):Prop:=i+1<a.size/\j<b.size/\MI κ o.toList (a.toList.drop i) (b.toList.drop j) (a.toList++b.toList)
theorem n6{x:Array Keyed}{i:Nat}(h:x.size<=i):x.toList.drop i=[]:=Xa (by rw[Dp];exact h)
theorem xK{o:Array Keyed}(h:MI κ o.toList (a.toList.drop i) (b.toList.drop j) (a.toList++b.toList))(hj:j=b.size):Done κ (a.toList++b.toList) (o++a.extract i a.size++b.extract j b.size).toList:=by rw[UY,UY,mL,mL];rw[n6 (x:=b) (by lia)]at h ⊢;rw[U3];exact h.F_
theorem Lh{o:Array Keyed}(h:MI κ o.toList (a.toList.drop i) (b.toList.drop j) (a.toList++b.toList))(hi:i=a.size):Done κ (a.toList++b.toList) (o++a.extract i a.size++b.extract j b.size).toList:=by rw[UY,UY,mL,mL];rw[n6 (x:=a) (by lia)]at h ⊢;rw[U3];exact h.Ld
theorem AV{o:Array Keyed}(ha:1<=a.size)(last:∀y∈b.toList,le κ y (a[a.size-1]'(by lia)))(h:MI κ o.toList (a.toList.drop i) (b.toList.drop j) (a.toList++b.toList))(hi:i+1=a.size):Done κ (a.toList++b.toList) (o++b.extract j b.size++a.extract i a.size).toList:=by
 rw[UY,UY,mL,mL];refine h.Ip fun x hx y hy=>?_;rw[xJ (by lia),n6 (x:=a) (by lia)]at hy;rw[UK]at hy;subst hy;have:=last x (VP hx)
 rwa [show a[a.size-1]'(by lia)=a[i]'(by lia) by congr 1;lia]at this
theorem Dl{o:Array Keyed}(hj:j<b.size)(h:MI κ o.toList (a.toList.drop i) (b.toList.drop j) (a.toList++b.toList))(hl:∀y∈a.toList.drop i,le κ b[j] y):MI κ (o.push b[j]).toList (a.toList.drop i) (b.toList.drop (j+1)) (a.toList++b.toList):=by rw[VS];rw[xJ hj]at h;exact MI.OM (B1:=[b[j]]) h fun x hx y hy=>by rw[UK]at hx;subst hx;exact hl y hy
theorem Ir{o:Array Keyed}(hi:i<a.size)(h:MI κ o.toList (a.toList.drop i) (b.toList.drop j) (a.toList++b.toList))(hl:∀y∈b.toList.drop j,le κ a[i] y):MI κ (o.push a[i]).toList (a.toList.drop (i+1)) (b.toList.drop j) (a.toList++b.toList):=by rw[VS];rw[xJ hi]at h;exact MI.OL (A1:=[a[i]]) h fun x hx y hy=>by rw[UK]at hx;subst hx;exact hl y hy
theorem dJ{x:Array Keyed}{i k:Nat}{p:Keyed}(h:p∈(x.extract i (i+k)).toList):∃m,m<k/\∃hm:i+m<x.size,p=x[i+m]:=by obtain⟨n,hn,e⟩:=VT h;rw[Dp,Wn]at hn;refine⟨n,by lia,by lia,?_⟩;rw[<- e];simp
theorem BU{x:Array Keyed}(hk:KeysOf κ x)(h:x.toList.Pairwise (le κ)){i:Nat}(hi:i<=x.size):Seg κ x i (i+(x.size-i)):=fun p q h1 h2 h3=>Iq hk h p q (by lia) h2 (by lia)
noncomputable abbrev Ll:=Option (Array Keyed)×Array Keyed×Nat×Nat×Nat×Nat×Nat
noncomputable def lA(a b o:Array Keyed)(i j g ca k:Nat):StateT SortSt Sem (ForInStep Ll):=do
 let z <- elem' a i
 if i+1+1 == a.size then pure (Vk (some (o.push z++b.extract j b.size++a.extract (i+1) a.size),o.push z,i+1,j,g,ca,k))
 else if ca<7&&k<7 then pure (Vk (none,o.push z,i+1,j,g,ca,k))
 else pure (VE (none,o.push z,i+1,j,g,ca,k))
noncomputable def lB(a b o:Array Keyed)(i j g ca cb:Nat):StateT SortSt Sem (ForInStep Ll):=do
 let z <- elem' b j
 if j+1 == b.size then pure (Vk (some (o.push z++a.extract i a.size++b.extract (j+1) b.size),o.push z,i,j+1,g,ca,cb))
 else do
  let y <- elem' a i
  let r <- wJ true y b (j+1) (b.size-(j+1)) 0
  match r with
   |some k=>
    if k>0 then
     if j+1+k == b.size then pure (Vk (some (o.push z++b.extract (j+1) (j+1+k)++a.extract i a.size++b.extract (j+1+k) b.size),o.push z++b.extract (j+1) (j+1+k),i,j+1+k,g,ca,k))
     else lA a b (o.push z++b.extract (j+1) (j+1+k)) i (j+1+k) g ca k
    else lA a b (o.push z) i (j+1) g ca k
   |x=>pure (Vk (some (o.push z++a.extract i a.size++b.extract (j+1) b.size),o.push z,i,j+1,g,ca,cb))
noncomputable def lC(a b o:Array Keyed)(i j g ca cb:Nat):StateT SortSt Sem (ForInStep Ll):=do
 zL g
 let z <- elem' b j
 let r <- wJ false z a i (a.size-i) 0
 match r with
  |some k=>
   if k>0 then
    if i+k+1 == a.size then pure (Vk (some (o++a.extract i (i+k)++b.extract j b.size++a.extract (i+k) a.size),o++a.extract i (i+k),i+k,j,g,k,cb))
    else if i+k == a.size then pure (Vk (some (o++a.extract i (i+k)++a.extract (i+k) a.size++b.extract j b.size),o++a.extract i (i+k),i+k,j,g,k,cb))
    else lB a b (o++a.extract i (i+k)) (i+k) j g k cb
   else lB a b o i j g k cb
  |x=>pure (Vk (some (o++a.extract i a.size++b.extract j b.size),o,i,j,g,ca,cb))
def Lp(κ:KeyKind)(a b:Array Keyed)(N:Nat)(st:SortSt)(r:ForInStep Ll)(st':SortSt):Prop:=(∃g',st'=setG st g')/\match r with
 |.done c=>(∃r z,c=(some r,z)/\Done κ (a.toList++b.toList) r.toList)\/∃o i j g ca cb,c=(none,o,i,j,g,ca,cb)/\IM κ a b o i j/\N<=o.size
 |.yield c=>∃o i j g ca cb,c=(none,o,i,j,g,ca,cb)/\IM κ a b o i j/\N<=o.size
theorem M1{M:Model}{o:Array Keyed}{i j g ca k N:Nat}{st st':SortSt}(ha:1<=a.size)(last:∀y∈b.toList,le κ y (a[a.size-1]'(by lia)))(hs:∃g',st'=setG st g')(hi:i+1<a.size)(hj:j<b.size)
  (mi:MI κ o.toList (a.toList.drop i) (b.toList.drop j) (a.toList++b.toList)) (hl:∀y∈b.toList.drop j,le κ (a[i]'(by lia)) y) (hN:N<=o.size):wpS M A E s (lA a b o i j g ca k) (Lp κ a b N st) st':=by
 unfold lA;rw[dg (a:=a) (i:=i) (by lia)];refine wpS_bind (wpS_pure ?_);have mi2:=Ir (by lia) mi hl;by_cases h1:i+1+1=a.size
 ·rw[if_pos (by simpa using h1)];exact wpS_pure ⟨hs,.inl ⟨_,_,rfl,AV ha last mi2 h1⟩⟩
 ·rw[if_neg (by simpa using h1)];have im:IM κ a b (o.push (a[i]'(by lia))) (i+1) j:=⟨by lia,hj,mi2⟩
  split
  ·exact wpS_pure ⟨hs,.inr ⟨_,_,_,_,_,_,rfl,im,by rw[Ve];lia⟩⟩
  ·exact wpS_pure ⟨hs,⟨_,_,_,_,_,_,rfl,im,by rw[Ve];lia⟩⟩
theorem M3{M:Model}(hL:mJ M A E s κ kd)(ka:KeysOf κ a)(kb:KeysOf κ b)(sb:b.toList.Pairwise (le κ)){o:Array Keyed}{i j g ca cb N:Nat}{st st':SortSt}(ha:1<=a.size)(last:∀y∈b.toList,le κ y (a[a.size-1]'(by lia)))(hd:kindOf st=kd)(hs:∃g',st'=setG st g')(hi:i+1<a.size)(hj:j<b.size)
  (mi:MI κ o.toList (a.toList.drop i) (b.toList.drop j) (a.toList++b.toList)) (hl:∀y∈a.toList.drop i,le κ b[j] y) (hN:N<=o.size):wpS M A E s (lB a b o i j g ca cb) (Lp κ a b N st) st':=by
 unfold lB;rw[dg hj];refine wpS_bind (wpS_pure ?_);have mi2:=Dl hj mi hl;by_cases h1:j+1=b.size
 ·rw[if_pos (by simpa using h1)];exact wpS_pure ⟨hs,.inl ⟨_,_,rfl,xK mi2 h1⟩⟩
 rw[if_neg (by simpa using h1),dg (a:=a) (i:=i) (by lia)];refine wpS_bind (wpS_pure ?_);obtain⟨g',rfl⟩:=hs;refine wpS_bind (uZ (b:=j+1) (n:=b.size-(j+1)) (hint:=0) hL (bY ka (i:=i) (by lia)).1 kb (by lia) (by lia) (BU kb sb (by lia)) (st:=setG st g') hd fun k hk h2 h3=>?_)
 try dsimp only
 have le1:∀x∈(b.extract (j+1) (j+1+k)).toList,∀y∈a.toList.drop i,le κ x y:=fun x hx y hy=>by obtain⟨m,hm,hm2,rfl⟩:=dJ hx;have:=h2 m hm;unfold pass at this;rw[if_pos rfl,(bY kb hm2).2]at this;exact le_trans (Vm this) (qm (by lia) mi.sA y hy)
 have le2:∀y∈b.toList.drop (j+1+k),le κ (a[i]'(by lia)) y:=fun y hy=>by
  by_cases RO:j+1+k<b.size
  ·have:=h3 k (Nat.le_refl _) (by lia);unfold pass at this;rw[if_pos rfl,(bY kb RO).2]at this;refine le_trans this (qm RO ?_ y hy);exact XH.sublist (XN _ _) sb
  ·rw[n6 (by lia)]at hy;cases hy
 by_cases hk0:k>0
 ·rw[if_pos hk0];have mi3:MI κ (o.push b[j]++b.extract (j+1) (j+1+k)).toList (a.toList.drop i) (b.toList.drop (j+1+k)) (a.toList++b.toList):=by
   rw[UY];rw[yh (a:=b) (i:=j+1) (k:=k)]at mi2;exact mi2.OM le1
  by_cases h4:j+1+k=b.size
  ·rw[if_pos (by simpa using h4)];exact wpS_pure ⟨⟨_,rfl⟩,.inl ⟨_,_,rfl,xK mi3 h4⟩⟩
  ·rw[if_neg (by simpa using h4)];exact M1 ha last ⟨_,rfl⟩ hi (by lia) mi3 le2 (by rw[W5,Ve];lia)
 ·rw[if_neg hk0];have:k=0:=by lia
  subst this;exact M1 ha last ⟨_,rfl⟩ hi (by lia) mi2 le2 (by rw[Ve];lia)
theorem Rf{M:Model}(hL:mJ M A E s κ kd)(ka:KeysOf κ a)(kb:KeysOf κ b)(sa:a.toList.Pairwise (le κ))(sb:b.toList.Pairwise (le κ)){o:Array Keyed}{i j g ca cb N:Nat}{st st':SortSt}(ha:1<=a.size)(last:∀y∈b.toList,le κ y (a[a.size-1]'(by lia)))(hd:kindOf st=kd)(hs:∃g',st'=setG st g')
  (im:IM κ a b o i j) (hN:N<=o.size):wpS M A E s (lC a b o i j g ca cb) (Lp κ a b N st) st':=by
 obtain⟨hi,hj,mi⟩:=im;obtain⟨g',rfl⟩:=hs;unfold lC;refine wpS_bind ?_;unfold zL;refine wpS_modify ?_;rw[dg hj];refine wpS_bind (wpS_pure ?_);refine wpS_bind (uZ (b:=i) (n:=a.size-i) (hint:=0) hL (bY kb hj).1 ka (by lia) (by lia) (BU ka sa (by lia)) (st:=setG st g) hd fun k hk h2 h3=>?_)
 try dsimp only
 have le1:∀x∈(a.extract i (i+k)).toList,∀y∈b.toList.drop j,le κ x y:=fun x hx y hy=>by
  obtain⟨m,hm,hm2,rfl⟩:=dJ hx;have:=h2 m hm;unfold pass at this;rw[if_neg (by decide),(bY ka hm2).2]at this;have kY:κ.blt (kp κ b[j]) (kp κ a[i+m])=false:=by simpa using this
  exact le_trans kY (qm hj mi.sB y hy)
 have le2:∀y∈a.toList.drop (i+k),le κ b[j] y:=fun y hy=>by
  by_cases RO:i+k<a.size
  ·have:=h3 k (Nat.le_refl _) (by lia);unfold pass at this;rw[if_neg (by decide),(bY ka RO).2]at this;have kY:κ.blt (kp κ b[j]) (kp κ a[i+k])=true:=by simpa using this
   refine le_trans (Vm kY) (qm RO ?_ y hy);exact XH.sublist (XN _ _) sa
  ·rw[n6 (by lia)]at hy;cases hy
 by_cases hk0:k>0
 ·rw[if_pos hk0];have mi3:MI κ (o++a.extract i (i+k)).toList (a.toList.drop (i+k)) (b.toList.drop j) (a.toList++b.toList):=by
   rw[UY];rw[yh (a:=a) (i:=i) (k:=k)]at mi;exact mi.OL le1
  by_cases h4:i+k+1=a.size
  ·rw[if_pos (by simpa using h4)];exact wpS_pure ⟨⟨_,rfl⟩,.inl ⟨_,_,rfl,AV ha last mi3 h4⟩⟩
  rw[if_neg (by simpa using h4)];by_cases h5:i+k=a.size
  ·rw[if_pos (by simpa using h5)];exact wpS_pure ⟨⟨_,rfl⟩,.inl ⟨_,_,rfl,Lh mi3 h5⟩⟩
  rw[if_neg (by simpa using h5)];exact M3 hL ka kb sb ha last hd ⟨_,rfl⟩ (by lia) hj mi3 le2 (by rw[W5];lia)
 ·rw[if_neg hk0];have:k=0:=by lia
  subst this;exact M3 hL ka kb sb ha last hd ⟨_,rfl⟩ hi hj mi le2 hN
theorem ON(hL:mJ (model prog w) A E s κ kd)(ka:KeysOf κ a)(kb:KeysOf κ b)(sa:a.toList.Pairwise (le κ))(sb:b.toList.Pairwise (le κ))(ha:1<=a.size)(hb:1<=b.size)
  (first:∀y∈a.toList,le κ (b[0]'(by lia)) y) (last:∀y∈b.toList,le κ y (a[a.size-1]'(by lia))) {st:SortSt} (hd:kindOf st=kd) {Q:Array Keyed->SortSt->Prop}
  (h:∀r g,Done κ (a.toList++b.toList) r.toList->Q r (setG st g)):wpS (model prog w) A E s (OG a b) Q st:=by
 rw[OI];refine wpS_bind (wpS_lift (wpAny_rule ⟨rfl,?_⟩))
 try dsimp only
 rw[dg (a:=b) (i:=0) (by lia)];refine wpS_bind (wpS_pure ?_)
 try dsimp only
 have m0:MI κ (#[]:Array Keyed).toList (a.toList.drop 0) (b.toList.drop 0) (a.toList++b.toList):=⟨by simp,by simp,by simp,by simpa using sa,by simpa using sb,by simp⟩
 have m1:MI κ (#[b[0]'(by lia)]:Array Keyed).toList (a.toList.drop 0) (b.toList.drop 1) (a.toList++b.toList):=Dl (o:=#[]) (j:=0) (by lia) m0 (by simpa using first);have same:setG st (gallopOf st)=st:=rfl;by_cases hb1:1=b.size
 ·rw[if_pos (by simpa using hb1)];exact wpS_pure (same▸h _ (gallopOf st) (xK m1 hb1))
 rw[if_neg (by simpa using hb1)];by_cases ha1:0+1=a.size
 ·rw[if_pos (by simpa using ha1)];exact wpS_pure (same▸h _ (gallopOf st) (AV ha last m1 ha1))
 rw[if_neg (by simpa using ha1)];refine wpS_bind (wpS_get ?_)
 try dsimp only
 have len:∀{o:Array Keyed} {i j:Nat},IM κ a b o i j->o.size<a.size+b.size:=fun {o i j} ⟨h1,h2,h3⟩=>by
  have:=h3.pm.length_eq;simp only[UO,Dp,Wd]at this
  lia
 refine wpS_bind (wpS_mono (wpS_forRange (I:=fun x c st'=>∃ o i j g,c=(none,o,i,j,g)∧(∃ g',st'=setG st g')∧IM κ a b o i j∧x+1≤o.size)
  (Q:=fun c st'=>∃r z,c=(some r,z)/\(∃g',st'=setG st g')/\Done κ (a.toList++b.toList) r.toList) ?st1 ?fi1 ⟨_,0,1,_,rfl,⟨gallopOf st,rfl⟩,⟨by lia,by lia,m1⟩,by simp⟩) ?po1)
 case fi1=>
  rintro c st' ⟨o,i,j,g,rfl,_,im,hsz⟩;have:=len im
  lia
 case po1=>rintro c st' ⟨r,z,rfl,⟨g',rfl⟩,hdn⟩;exact wpS_pure (h r g' hdn)
 case st1=>
  rintro x c st' _ hx ⟨o,i,j,g,rfl,⟨g',rfl⟩,im,hsz⟩
  try dsimp only
  refine wpS_bind (wpS_mono (wpS_forRange (I:=fun y c st''=>∃ o' i' j' ca cb,c=(none,o',i',j',ca,cb)∧st''=setG st g'∧IM κ a b o' i' j'∧o.size+y≤o'.size)
   (Q:=fun c st''=>st''=setG st g'/\((∃r z,c=(some r,z)/\Done κ (a.toList++b.toList) r.toList)\/∃o' i' j' ca cb,c=(none,o',i',j',ca,cb)/\IM κ a b o' i' j'/\o.size+1<=o'.size)) ?st2 ?fi2 ⟨o,i,j,0,0,rfl,rfl,im,by lia⟩) ?po2)
  case fi2=>rintro c st'' ⟨o',i',j',ca,cb,rfl,rfl,im',hs'⟩;exact⟨rfl,.inr ⟨o',i',j',ca,cb,rfl,im',by lia⟩⟩
  case st2=>
   rintro y c st'' _ hy ⟨o',i',j',ca,cb,rfl,rfl,⟨hi',hj',mi⟩,hs'⟩
   try dsimp only
   rw[dg hj',dg (a:=a) (i:=i') (by lia)];refine wpS_bind (wpS_pure (wpS_bind (wpS_pure ?_)));obtain⟨kb1,_⟩:=bY kb hj';obtain⟨ka1,_⟩:=bY ka (i:=i') (by lia);refine wpS_bind (hL _ _ _ _ _ _ kb1 ka1 hd ?_)
   try dsimp only
   cases hw:κ.blt (kp κ b[j']) (kp κ (a[i']'(by lia)))
   case true=>
    rw[if_pos rfl];refine wpS_bind (wpS_pure ?_)
    try dsimp only
    have mi2:=Dl hj' mi fun y hy=>le_trans (Vm hw) (qm (by lia) mi.sA y hy);by_cases hjb:j'+1=b.size
    ·rw[if_pos (by simpa using hjb)];exact wpS_pure ⟨rfl,.inl ⟨_,_,rfl,xK mi2 hjb⟩⟩
    rw[if_neg (by simpa using hjb)];by_cases hg:cb+1≥g
    ·rw[if_pos hg];exact wpS_pure ⟨rfl,.inr ⟨_,_,_,_,_,rfl,⟨hi',by lia,mi2⟩,by rw[Ve];lia⟩⟩
    ·rw[if_neg hg];exact wpS_pure ⟨_,_,_,_,_,rfl,rfl,⟨hi',by lia,mi2⟩,by rw[Ve];lia⟩
   case false=>
    rw[if_neg (by decide)];refine wpS_bind (wpS_pure ?_)
    try dsimp only
    have mi2:=Ir (by lia) mi fun y hy=>le_trans hw (qm hj' mi.sB y hy);by_cases hia:i'+1+1=a.size
    ·rw[if_pos (by simpa using hia)];exact wpS_pure ⟨rfl,.inl ⟨_,_,rfl,AV ha last mi2 hia⟩⟩
    rw[if_neg (by simpa using hia)];by_cases hg:ca+1≥g
    ·rw[if_pos hg];exact wpS_pure ⟨rfl,.inr ⟨_,_,_,_,_,rfl,⟨by lia,hj',mi2⟩,by rw[Ve];lia⟩⟩
    ·rw[if_neg hg];exact wpS_pure ⟨_,_,_,_,_,rfl,rfl,⟨by lia,hj',mi2⟩,by rw[Ve];lia⟩
  case po2=>
   rintro c st'' ⟨rfl,⟨r,z,rfl,hdn⟩ | ⟨o',i',j',ca,cb,rfl,im',hs'⟩⟩
   ·dsimp only;exact wpS_pure ⟨r,_,rfl,⟨_,rfl⟩,hdn⟩
   try dsimp only
   refine wpS_bind (wpS_lift (wpAny_rule ⟨rfl,?_⟩));refine wpS_bind (wpS_mono (wpS_forRange (I:=fun y c st''=>∃ o2 i2 j2 g2 ca cb,c=(none,o2,i2,j2,g2,ca,cb)∧(∃ g',st''=setG st g')∧IM κ a b o2 i2 j2∧o.size+1≤o2.size)
    (Q:=fun c st''=>(∃g',st''=setG st g')/\((∃r z,c=(some r,z)/\Done κ (a.toList++b.toList) r.toList)\/∃o2 i2 j2 g2 ca cb,c=(none,o2,i2,j2,g2,ca,cb)/\IM κ a b o2 i2 j2/\o.size+1<=o2.size)) ?st3 ?fi3 ⟨o',i',j',_,_,_,rfl,⟨_,rfl⟩,im',hs'⟩) ?po3)
   case fi3=>rintro c st'' ⟨o2,i2,j2,g2,ca,cb,rfl,hg,im2,hs2⟩;exact⟨hg,.inr ⟨o2,i2,j2,g2,ca,cb,rfl,im2,hs2⟩⟩
   case po3=>
    rintro c st'' ⟨⟨g3,rfl⟩,⟨r,z,rfl,hdn⟩ | ⟨o2,i2,j2,g2,ca,cb,rfl,im2,hs2⟩⟩
    ·dsimp only;exact wpS_pure ⟨r,_,rfl,⟨_,rfl⟩,hdn⟩
    ·dsimp only;refine wpS_bind ?_;unfold zL;exact wpS_modify (wpS_pure ⟨o2,i2,j2,_,rfl,⟨_,rfl⟩,im2,by lia⟩)
   case st3=>
    rintro y c st'' _ hy ⟨o2,i2,j2,g2,ca,cb,rfl,⟨g3,rfl⟩,⟨hi2,hj2,mi⟩,hs2⟩;show wpS _ _ _ _ (if g2>1 then lC a b o2 i2 j2 (g2-1) ca cb else lC a b o2 i2 j2 g2 ca cb) _ _;have R1:∀g,wpS (model prog w) A E s (lC a b o2 i2 j2 g ca cb) (Lp κ a b (o.size+1) st) (setG st g3):=fun g=>Rf hL ka kb sa sb ha last hd ⟨_,rfl⟩ ⟨hi2,hj2,mi⟩ hs2;split
    all_goals
     refine wpS_mono (R1 _) fun r st' hG=>?_;cases r with
     |done c=>exact hG
     |yield c=>obtain⟨hg,o,i,j,g,ca,cb,e,im,hz⟩:=hG;exact⟨o,i,j,g,ca,cb,e,hg,im,hz⟩
end
end
end Ts
namespace Ts
open PySem PyProof.Rows
variable{A:Around}{E:Value->Shared->Prop}{s:Shared}{κ:KeyKind}{kd:SortKind}{a₀:Array Keyed}{prog:Program}{w:World}
theorem OO(a b:Array Keyed):OH a b=(do
  rule "list.sort.merge-hi"
  let t:=a.size+b.size
  let dn (o:Array Keyed) (p q:Nat):=a.extract 0 p++b.extract 0 q++o.reverse
  let fb (o:Array Keyed) (p q:Nat):=b.extract 0 q++a.extract 0 p++o.reverse
  let mut p:=a.size-1
  let mut q:=b.size
  let mut o:Array Keyed:=#[<- elem' a p]
  if p == 0 then return dn o p q
  if q == 1 then return fb o p q
  let mut g:=gallopOf (<- get)
  for _ in [0:t] do
   let mut ca:=0
   let mut cb:=0
   for _ in [0:t] do
    let some OJ <- lt' (<- elem' b (q-1)) (<- elem' a (p-1))
     |return dn o p q
    if OJ then
     p:=p-1
     o:=o.push (<- elem' a p)
     ca:=ca+1
     cb:=0
     if p == 0 then return dn o p q
     if ca≥g then break
    else
     q:=q-1
     o:=o.push (<- elem' b q)
     cb:=cb+1
     ca:=0
     if q == 1 then return fb o p q
     if cb≥g then break
   rule "list.sort.gallop"
   g:=g+1
   for _ in [0:t] do
    if g>1 then g:=g-1
    zL g
    let some z <- wJ false (<- elem' b (q-1)) a 0 p (p-1)
     |return dn o p q
    let k:=p-z
    ca:=k
    if k>0 then
     o:=o++(a.extract z p).reverse
     p:=z
     if p == 0 then return dn o p q
    q:=q-1
    o:=o.push (<- elem' b q)
    if q == 1 then return fb o p q
    let some z <- wJ true (<- elem' a (p-1)) b 0 q (q-1)
     |return dn o p q
    let k:=q-z
    cb:=k
    if k>0 then
     o:=o++(b.extract z q).reverse
     q:=z
     if q == 1 then return fb o p q
     if q == 0 then return dn o p q
    p:=p-1
    o:=o.push (<- elem' a p)
    if p == 0 then return dn o p q
    if ca<7&&cb<7 then break
   g:=g+1
   zL g
  unsupported "internal:list.sort.merge-bound"):=rfl
structure MJ(κ:KeyKind)(R A B tot:List Keyed):Prop where
 sr:R.Pairwise (le κ)
 Ar:∀x∈A,∀y∈R,le κ x y
 Br:∀x∈B,∀y∈R,le κ x y
 sA:A.Pairwise (le κ)
 sB:B.Pairwise (le κ)
 pm:((A++B)++R).Perm tot
theorem MJ.swap{R A B tot:List Keyed}(h:MJ κ R A B tot):MJ κ R B A tot:=⟨h.sr,h.Br,h.Ar,h.sB,h.sA,(XD.append_right R List.perm_append_comm).trans h.pm⟩
theorem MJ.OP{R A B1 B2 tot:List Keyed}(h:MJ κ R A (B1++B2) tot)(hl:∀x∈A,∀y∈B2,le κ x y):MJ κ (B2++R) A B1 tot where
 sr:=U5.mpr ⟨(U5.mp h.sB).2.1,h.sr,fun x hx y hy=>h.Br x (UD _ hx) y hy⟩
 Ar:=fun x hx y hy=>by
  rcases Uy.mp hy with hy | hy
  ·exact hl x hx y hy
  ·exact h.Ar x hx y hy
 Br:=fun x hx y hy=>by
  rcases Uy.mp hy with hy | hy
  ·exact(U5.mp h.sB).2.2 x hx y hy
  ·exact h.Br x (Va _ hx) y hy
 sA:=h.sA
 sB:=(U5.mp h.sB).1
 pm:=by
  have:=h.pm
  simpa [VC] using this
theorem MJ.OQ{R A1 A2 B tot:List Keyed}(h:MJ κ R (A1++A2) B tot)(hl:∀x∈B,∀y∈A2,le κ x y):MJ κ (A2++R) A1 B tot:=(h.swap.OP hl).swap
theorem MJ.F_{R A tot:List Keyed}(h:MJ κ R A [] tot):Done κ tot (A++R):=⟨by have:=h.pm;rwa [U3]at this,U5.mpr ⟨h.sA,h.sr,h.Ar⟩⟩
theorem MJ.Ld{R B tot:List Keyed}(h:MJ κ R [] B tot):Done κ tot (B++R):=h.swap.F_
theorem MJ.Ip{R A B tot:List Keyed}(h:MJ κ R A B tot)(hl:∀x∈B,∀y∈A,le κ x y):Done κ tot (B++A++R):=by
 have:=(MJ.OQ (A1:=[]) h hl).Ld
 rwa [<- VC]at this
section
variable{a b:Array Keyed}
section
variable{p q:Nat}
noncomputable abbrev MJa(κ:KeyKind)(a b o:Array Keyed)(p q:Nat):Prop:=MJ κ o.toList.reverse (a.toList.take p) (b.toList.take q) (a.toList++b.toList)
def IJ(κ:KeyKind)(a b o:Array Keyed)(p q:Nat):Prop:=1<=p/\p<=a.size/\2<=q/\q<=b.size/\MJa κ a b o p q
theorem i7{x:Array Keyed}{p:Nat}:(x.extract 0 p).toList=x.toList.take p:=by rw[Vy,Vs,List.drop_zero,Nat.sub_zero]
theorem xM{x:Array Keyed}{p:Nat}(h:p<x.size):x.toList.take (p+1)=x.toList.take p++[x[p]]:=by rw[List.take_succ,Uz (by rw[Dp];exact h)];simp
theorem BV{x:Array Keyed}{z p:Nat}(hz:z<=p):x.toList.take p=x.toList.take z++(x.extract z p).toList:=by rw[Vy,Vs];have:=Vu z (x.toList.take p);rw[List.take_take,Nat.min_eq_left hz,List.drop_take]at this;exact this.symm
theorem AW{o:Array Keyed}(h:MJa κ a b o p q)(hp:p=0):Done κ (a.toList++b.toList) (a.extract 0 p++b.extract 0 q++o.reverse).toList:=by rw[UY,UY,i7,i7,V8];subst hp;unfold MJa at h;rw[X8]at h ⊢;rw[Uk];exact h.Ld
theorem OR{o:Array Keyed}(h:MJa κ a b o p q)(hq:q=0):Done κ (a.toList++b.toList) (a.extract 0 p++b.extract 0 q++o.reverse).toList:=by rw[UY,UY,i7,i7,V8];subst hq;unfold MJa at h;rw[X8]at h ⊢;rw[U3];exact h.F_
theorem EK{o:Array Keyed}(hb:1<=b.size)(first:∀y∈a.toList,le κ (b[0]'(by lia)) y)(h:MJa κ a b o p q)(hq:q=1):Done κ (a.toList++b.toList) (b.extract 0 q++a.extract 0 p++o.reverse).toList:=by rw[UY,UY,i7,i7,V8];refine MJ.Ip h fun x hx y hy=>?_;subst hq;rw[show 1=0+1 from rfl,xM (by lia),X8,Uk,UK]at hx;subst hx;exact first y (Vz hy)
theorem M4{o:Array Keyed}(hq:q<b.size)(h:MJa κ a b o p (q+1))(hl:∀x∈a.toList.take p,le κ x b[q]):MJa κ a b (o.push b[q]) p q:=by unfold MJa at h ⊢;rw[VS,WH,List.reverse_singleton];rw[xM hq]at h;exact MJ.OP h fun x hx y hy=>by rw[UK]at hy;subst hy;exact hl x hx
theorem Iu{o:Array Keyed}(hp:p<a.size)(h:MJa κ a b o (p+1) q)(hl:∀x∈b.toList.take q,le κ x a[p]):MJa κ a b (o.push a[p]) p q:=by unfold MJa at h ⊢;rw[VS,WH,List.reverse_singleton];rw[xM hp]at h;exact MJ.OQ h fun x hx y hy=>by rw[UK]at hy;subst hy;exact hl x hx
theorem xN{x:Array Keyed}{p:Nat}(h:p<x.size)(hs:(x.toList.take (p+1)).Pairwise (le κ)):∀y∈x.toList.take (p+1),le κ y x[p]:=fun y hy=>by
 rw[xM h]at hs hy;rcases Uy.mp hy with hy | hy
 ·exact(U5.mp hs).2.2 y hy _ (UK.mpr rfl)
 ·rw[UK]at hy;subst hy;exact le_refl _
theorem BW{x:Array Keyed}(hk:KeysOf κ x)(h:x.toList.Pairwise (le κ)){p:Nat}(hp:p<=x.size):Seg κ x 0 (0+p):=fun i j h1 h2 h3=>Iq hk h i j (by lia) h2 (by lia)
noncomputable abbrev Lq:=Option (Array Keyed)×Nat×Nat×Array Keyed×Nat×Nat×Nat
noncomputable def hA(a b o:Array Keyed)(p q g ca k:Nat):StateT SortSt Sem (ForInStep Lq):=do
 let z <- elem' a (p-1)
 if p-1 == 0 then pure (Vk (some (a.extract 0 (p-1)++b.extract 0 q++(o.push z).reverse),p-1,q,o.push z,g,ca,k))
 else if ca<7&&k<7 then pure (Vk (none,p-1,q,o.push z,g,ca,k))
 else pure (VE (none,p-1,q,o.push z,g,ca,k))
noncomputable def hB(a b o:Array Keyed)(p q g ca cb:Nat):StateT SortSt Sem (ForInStep Lq):=do
 let z <- elem' b (q-1)
 if q-1 == 1 then pure (Vk (some (b.extract 0 (q-1)++a.extract 0 p++(o.push z).reverse),p,q-1,o.push z,g,ca,cb))
 else do
  let y <- elem' a (p-1)
  let r <- wJ true y b 0 (q-1) (q-1-1)
  match r with
   |some m=>
    if q-1-m>0 then
     if m == 1 then pure (Vk (some (b.extract 0 m++a.extract 0 p++(o.push z++(b.extract m (q-1)).reverse).reverse),p,m,o.push z++(b.extract m (q-1)).reverse,g,ca,q-1-m))
     else if m == 0 then pure (Vk (some (a.extract 0 p++b.extract 0 m++(o.push z++(b.extract m (q-1)).reverse).reverse),p,m,o.push z++(b.extract m (q-1)).reverse,g,ca,q-1-m))
     else hA a b (o.push z++(b.extract m (q-1)).reverse) p m g ca (q-1-m)
    else hA a b (o.push z) p (q-1) g ca (q-1-m)
   |x=>pure (Vk (some (a.extract 0 p++b.extract 0 (q-1)++(o.push z).reverse),p,q-1,o.push z,g,ca,cb))
noncomputable def hC(a b o:Array Keyed)(p q g ca cb:Nat):StateT SortSt Sem (ForInStep Lq):=do
 zL g
 let z <- elem' b (q-1)
 let r <- wJ false z a 0 p (p-1)
 match r with
  |some m=>
   if p-m>0 then
    if m == 0 then pure (Vk (some (a.extract 0 m++b.extract 0 q++(o++(a.extract m p).reverse).reverse),m,q,o++(a.extract m p).reverse,g,p-m,cb))
    else hB a b (o++(a.extract m p).reverse) m q g (p-m) cb
   else hB a b o p q g (p-m) cb
  |x=>pure (Vk (some (a.extract 0 p++b.extract 0 q++o.reverse),p,q,o,g,ca,cb))
def EL(κ:KeyKind)(a b:Array Keyed)(N:Nat)(st:SortSt)(r:ForInStep Lq)(st':SortSt):Prop:=(∃g',st'=setG st g')/\match r with
 |.done c=>(∃r z,c=(some r,z)/\Done κ (a.toList++b.toList) r.toList)\/∃o p q g ca cb,c=(none,p,q,o,g,ca,cb)/\IJ κ a b o p q/\N<=o.size
 |.yield c=>∃o p q g ca cb,c=(none,p,q,o,g,ca,cb)/\IJ κ a b o p q/\N<=o.size
theorem M5{M:Model}{o:Array Keyed}{p q g ca k N:Nat}{st st':SortSt}(hs:∃g',st'=setG st g')(hp:1<=p)(hp2:p<=a.size)(hq:2<=q)(hq2:q<=b.size)
  (mj:MJa κ a b o p q) (hl:∀x∈b.toList.take q,le κ x (a[p-1]'(by lia))) (hN:N<=o.size):wpS M A E s (hA a b o p q g ca k) (EL κ a b N st) st':=by
 obtain⟨p,rfl⟩:∃p',p=p'+1:=⟨p-1,by lia⟩
 unfold hA;rw[Vw];rw[dg (a:=a) (i:=p) (by lia)];refine wpS_bind (wpS_pure ?_);have mj2:=Iu (by lia) mj hl;by_cases h1:p=0
 ·rw[if_pos (by simpa using h1)];exact wpS_pure ⟨hs,.inl ⟨_,_,rfl,AW mj2 h1⟩⟩
 ·rw[if_neg (by simpa using h1)];have ij:IJ κ a b (o.push (a[p]'(by lia))) p q:=⟨by lia,by lia,hq,hq2,mj2⟩
  split
  ·exact wpS_pure ⟨hs,.inr ⟨_,_,_,_,_,_,rfl,ij,by rw[Ve];lia⟩⟩
  ·exact wpS_pure ⟨hs,⟨_,_,_,_,_,_,rfl,ij,by rw[Ve];lia⟩⟩
theorem M6{M:Model}(hL:mJ M A E s κ kd)(ka:KeysOf κ a)(kb:KeysOf κ b)(sb:b.toList.Pairwise (le κ)){o:Array Keyed}{p q g ca cb N:Nat}{st st':SortSt}(hb:1<=b.size)(first:∀y∈a.toList,le κ (b[0]'(by lia)) y)(hd:kindOf st=kd)(hs:∃g',st'=setG st g')(hp:1<=p)(hp2:p<=a.size)(hq:2<=q)(hq2:q<=b.size)
  (mj:MJa κ a b o p q) (hl:∀x∈a.toList.take p,le κ x (b[q-1]'(by lia))) (hN:N<=o.size):wpS M A E s (hB a b o p q g ca cb) (EL κ a b N st) st':=by
 obtain⟨q,rfl⟩:∃q',q=q'+1:=⟨q-1,by lia⟩
 unfold hB;rw[Vw];rw[dg (a:=b) (i:=q) (by lia)];refine wpS_bind (wpS_pure ?_);have mj2:=M4 (by lia) mj hl;by_cases h1:q=1
 ·rw[if_pos (by simpa using h1)];exact wpS_pure ⟨hs,.inl ⟨_,_,rfl,EK hb first mj2 h1⟩⟩
 rw[if_neg (by simpa using h1),dg (a:=a) (i:=p-1) (by lia)];refine wpS_bind (wpS_pure ?_);obtain⟨g',rfl⟩:=hs;refine wpS_bind (uZ (b:=0) (n:=q) (hint:=q-1) hL (bY ka (i:=p-1) (by lia)).1 kb (by lia) (by lia) (BW kb sb (by lia)) (st:=setG st g') hd fun m hm h2 h3=>?_)
 try dsimp only
 have Tn:∀x∈a.toList.take p,le κ x (a[p-1]'(by omega)):=by
  have:=xN (κ:=κ) (x:=a) (p:=p-1) (by lia) (by rw[show p-1+1=p by lia];exact mj.sA)
  rwa [show p-1+1=p by lia]at this
 have le1:∀x∈a.toList.take p,∀y∈(b.extract m q).toList,le κ x y:=fun x hx y hy=>by obtain⟨n,hn,hn2,rfl⟩:=dJ (x:=b) (i:=m) (k:=q-m) (by rw[show m+(q-m)=q by lia];exact hy);have:=h3 (m+n) (by lia) (by lia);unfold pass at this;rw[if_pos rfl,UA,(bY kb hn2).2]at this;exact le_trans (Tn x hx) this
 have le2:∀x∈b.toList.take m,le κ x (a[p-1]'(by lia)):=fun x hx=>by rw[<- i7]at hx;obtain⟨n,hn,hn2,rfl⟩:=dJ (x:=b) (i:=0) (k:=m) (by rw[UA];exact hx);have:=h2 n hn;unfold pass at this;rw[if_pos rfl,(bY kb hn2).2]at this;exact Vm this
 by_cases hk0:q-m>0
 ·rw[if_pos hk0];have mj3:MJa κ a b (o.push (b[q]'(by lia))++(b.extract m q).reverse) p m:=by
   unfold MJa at mj2 ⊢;rw[UY,V8,WH,List.reverse_reverse];rw[BV (z:=m) (p:=q) (by lia)]at mj2;exact MJ.OP mj2 le1
  by_cases h4:m=1
  ·rw[if_pos (by simpa using h4)];exact wpS_pure ⟨⟨_,rfl⟩,.inl ⟨_,_,rfl,EK hb first mj3 h4⟩⟩
  rw[if_neg (by simpa using h4)];by_cases h5:m=0
  ·rw[if_pos (by simpa using h5)];exact wpS_pure ⟨⟨_,rfl⟩,.inl ⟨_,_,rfl,OR mj3 h5⟩⟩
  rw[if_neg (by simpa using h5)];exact M5 ⟨_,rfl⟩ hp hp2 (by lia) (by lia) mj3 le2 (by rw[W5,Ve];lia)
 ·rw[if_neg hk0];have:m=q:=by lia
  subst this;exact M5 ⟨_,rfl⟩ hp hp2 (by lia) (by lia) mj2 le2 (by rw[Ve];lia)
theorem Rg{M:Model}(hL:mJ M A E s κ kd)(ka:KeysOf κ a)(kb:KeysOf κ b)(sa:a.toList.Pairwise (le κ))(sb:b.toList.Pairwise (le κ)){o:Array Keyed}{p q g ca cb N:Nat}{st st':SortSt}(hb:1<=b.size)(first:∀y∈a.toList,le κ (b[0]'(by lia)) y)(hd:kindOf st=kd)(hs:∃g',st'=setG st g')
  (ij:IJ κ a b o p q) (hN:N<=o.size):wpS M A E s (hC a b o p q g ca cb) (EL κ a b N st) st':=by
 obtain⟨hp,hp2,hq,hq2,mj⟩:=ij;obtain⟨g',rfl⟩:=hs;unfold hC;refine wpS_bind ?_;unfold zL;refine wpS_modify ?_;rw[dg (a:=b) (i:=q-1) (by lia)];refine wpS_bind (wpS_pure ?_);refine wpS_bind (uZ (b:=0) (n:=p) (hint:=p-1) hL (bY kb (i:=q-1) (by lia)).1 ka (by lia) (by lia) (BW ka sa (by lia)) (st:=setG st g) hd fun m hm h2 h3=>?_)
 try dsimp only
 have To:∀x∈b.toList.take q,le κ x (b[q-1]'(by omega)):=by
  have:=xN (κ:=κ) (x:=b) (p:=q-1) (by lia) (by rw[show q-1+1=q by lia];exact mj.sB)
  rwa [show q-1+1=q by lia]at this
 have le1:∀x∈b.toList.take q,∀y∈(a.extract m p).toList,le κ x y:=fun x hx y hy=>by
  obtain⟨n,hn,hn2,rfl⟩:=dJ (x:=a) (i:=m) (k:=p-m) (by rw[show m+(p-m)=p by lia];exact hy);have:=h3 (m+n) (by lia) (by lia);unfold pass at this;rw[if_neg (by decide),UA,(bY ka hn2).2]at this;have kY:κ.blt (kp κ (b[q-1]'(by lia))) (kp κ a[m+n])=true:=by simpa using this
  exact le_trans (To x hx) (Vm kY)
 have le2:∀x∈a.toList.take m,le κ x (b[q-1]'(by lia)):=fun x hx=>by
  rw[<- i7]at hx;obtain⟨n,hn,hn2,rfl⟩:=dJ (x:=a) (i:=0) (k:=m) (by rw[UA];exact hx);have:=h2 n hn;unfold pass at this;rw[if_neg (by decide),(bY ka hn2).2]at this;have kY:κ.blt (kp κ (b[q-1]'(by lia))) (kp κ a[0+n])=false:=by simpa using this
  exact kY
 by_cases hk0:p-m>0
 ·rw[if_pos hk0];have mj3:MJa κ a b (o++(a.extract m p).reverse) m q:=by
   unfold MJa at mj ⊢;rw[UY,V8,WH,List.reverse_reverse];rw[BV (z:=m) (p:=p) (by lia)]at mj;exact MJ.OQ mj le1
  by_cases h5:m=0
  ·rw[if_pos (by simpa using h5)];exact wpS_pure ⟨⟨_,rfl⟩,.inl ⟨_,_,rfl,AW mj3 h5⟩⟩
  rw[if_neg (by simpa using h5)];exact M6 hL ka kb sb hb first hd ⟨_,rfl⟩ (by lia) (by lia) hq hq2 mj3 le2 (by rw[W5];lia)
 ·rw[if_neg hk0];have:m=p:=by lia
  subst this;exact M6 hL ka kb sb hb first hd ⟨_,rfl⟩ hp hp2 hq hq2 mj le2 hN
theorem OS(hL:mJ (model prog w) A E s κ kd)(ka:KeysOf κ a)(kb:KeysOf κ b)(sa:a.toList.Pairwise (le κ))(sb:b.toList.Pairwise (le κ))(ha:1<=a.size)(hb:1<=b.size)
  (first:∀y∈a.toList,le κ (b[0]'(by lia)) y) (last:∀y∈b.toList,le κ y (a[a.size-1]'(by lia))) {st:SortSt} (hd:kindOf st=kd) {Q:Array Keyed->SortSt->Prop}
  (h:∀r g,Done κ (a.toList++b.toList) r.toList->Q r (setG st g)):wpS (model prog w) A E s (OH a b) Q st:=by
 rw[OO];refine wpS_bind (wpS_lift (wpAny_rule ⟨rfl,?_⟩))
 try dsimp only
 rw[dg (a:=a) (i:=a.size-1) (by lia)];refine wpS_bind (wpS_pure ?_)
 try dsimp only
 have m0:MJa κ a b #[] (a.size-1+1) b.size:=⟨by simp,by simp,by simp,by rw [show a.size-1+1=a.size by lia,VB (by simp)];exact sa,by rw [VB (by simp)];exact sb,by rw[show a.size-1+1=a.size by lia,VB (by simp),VB (by simp)];simp⟩
 have m1:MJa κ a b #[a[a.size-1]'(by lia)] (a.size-1) b.size:=Iu (o:=#[]) (by lia) m0 fun x hx=>last x (Vz hx);have same:setG st (gallopOf st)=st:=rfl;by_cases ha1:a.size-1=0
 ·rw[if_pos (by simpa using ha1)];exact wpS_pure (same▸h _ (gallopOf st) (AW m1 ha1))
 rw[if_neg (by simpa using ha1)];by_cases hb1:b.size=1
 ·rw[if_pos (by simpa using hb1)];exact wpS_pure (same▸h _ (gallopOf st) (EK hb first m1 hb1))
 rw[if_neg (by simpa using hb1)];refine wpS_bind (wpS_get ?_)
 try dsimp only
 have len:∀{o:Array Keyed} {p q:Nat},IJ κ a b o p q->o.size<a.size+b.size:=fun {o p q} ⟨h1,h2,h3,h4,h5⟩=>by
  have:=h5.pm.length_eq;simp only[UO,Dp,Vn,Xr]at this
  lia
 refine wpS_bind (wpS_mono (wpS_forRange (I:=fun x c st'=>∃ o p q g,c=(none,p,q,o,g)∧(∃ g',st'=setG st g')∧IJ κ a b o p q∧x+1≤o.size)
  (Q:=fun c st'=>∃r z,c=(some r,z)/\(∃g',st'=setG st g')/\Done κ (a.toList++b.toList) r.toList) ?st1 ?fi1 ⟨_,a.size-1,b.size,_,rfl,⟨gallopOf st,rfl⟩,⟨by lia,by lia,by lia,by lia,m1⟩,by simp⟩) ?po1)
 case fi1=>
  rintro c st' ⟨o,p,q,g,rfl,_,ij,hsz⟩;have:=len ij
  lia
 case po1=>rintro c st' ⟨r,z,rfl,⟨g',rfl⟩,hdn⟩;exact wpS_pure (h r g' hdn)
 case st1=>
  rintro x c st' _ hx ⟨o,p,q,g,rfl,⟨g',rfl⟩,ij,hsz⟩
  try dsimp only
  refine wpS_bind (wpS_mono (wpS_forRange (I:=fun y c st''=>∃ o' p' q' ca cb,c=(none,p',q',o',ca,cb)∧st''=setG st g'∧IJ κ a b o' p' q'∧o.size+y≤o'.size)
   (Q:=fun c st''=>st''=setG st g'/\((∃r z,c=(some r,z)/\Done κ (a.toList++b.toList) r.toList)\/∃o' p' q' ca cb,c=(none,p',q',o',ca,cb)/\IJ κ a b o' p' q'/\o.size+1<=o'.size)) ?st2 ?fi2 ⟨o,p,q,0,0,rfl,rfl,ij,by lia⟩) ?po2)
  case fi2=>rintro c st'' ⟨o',p',q',ca,cb,rfl,rfl,ij',hs'⟩;exact⟨rfl,.inr ⟨o',p',q',ca,cb,rfl,ij',by lia⟩⟩
  case st2=>
   rintro y c st'' _ hy ⟨o',p',q',ca,cb,rfl,rfl,⟨hp1,hp2,hq1,hq2,mj⟩,hs'⟩
   try dsimp only
   obtain⟨p',rfl⟩:∃z,p'=z+1:=⟨p'-1,by lia⟩
   obtain⟨q',rfl⟩:∃z,q'=z+1:=⟨q'-1,by lia⟩
   simp only[Vw];rw[dg (a:=b) (i:=q') (by lia),dg (a:=a) (i:=p') (by lia)];refine wpS_bind (wpS_pure (wpS_bind (wpS_pure ?_)));obtain⟨kb1,_⟩:=bY kb (i:=q') (by lia);obtain⟨ka1,_⟩:=bY ka (i:=p') (by lia);refine wpS_bind (hL _ _ _ _ _ _ kb1 ka1 hd ?_)
   try dsimp only
   cases hw:κ.blt (kp κ (b[q']'(by lia))) (kp κ (a[p']'(by lia)))
   case true=>
    rw[if_pos rfl];refine wpS_bind (wpS_pure ?_)
    try dsimp only
    have mj2:=Iu (by lia) mj fun x hx=>le_trans (xN (by lia) mj.sB x hx) (Vm hw);by_cases hpb:p'=0
    ·rw[if_pos (by simpa using hpb)];exact wpS_pure ⟨rfl,.inl ⟨_,_,rfl,AW mj2 hpb⟩⟩
    rw[if_neg (by simpa using hpb)];by_cases hg:ca+1≥g
    ·rw[if_pos hg];exact wpS_pure ⟨rfl,.inr ⟨_,_,_,_,_,rfl,⟨by lia,by lia,by lia,by lia,mj2⟩,by rw[Ve];lia⟩⟩
    ·rw[if_neg hg];exact wpS_pure ⟨_,_,_,_,_,rfl,rfl,⟨by lia,by lia,by lia,by lia,mj2⟩,by rw[Ve];lia⟩
   case false=>
    rw[if_neg (by decide)];refine wpS_bind (wpS_pure ?_)
    try dsimp only
    have mj2:=M4 (by lia) mj fun x hx=>le_trans (xN (by lia) mj.sA x hx) hw;by_cases hqb:q'=1
    ·rw[if_pos (by simpa using hqb)];exact wpS_pure ⟨rfl,.inl ⟨_,_,rfl,EK hb first mj2 hqb⟩⟩
    rw[if_neg (by simpa using hqb)];by_cases hg:cb+1≥g
    ·rw[if_pos hg];exact wpS_pure ⟨rfl,.inr ⟨_,_,_,_,_,rfl,⟨by lia,by lia,by lia,by lia,mj2⟩,by rw[Ve];lia⟩⟩
    ·rw[if_neg hg];exact wpS_pure ⟨_,_,_,_,_,rfl,rfl,⟨by lia,by lia,by lia,by lia,mj2⟩,by rw[Ve];lia⟩
  case po2=>
   rintro c st'' ⟨rfl,⟨r,z,rfl,hdn⟩ | ⟨o',p',q',ca,cb,rfl,ij',hs'⟩⟩
   ·try dsimp only
    exact wpS_pure ⟨r,_,rfl,⟨_,rfl⟩,hdn⟩
   try dsimp only
   refine wpS_bind (wpS_lift (wpAny_rule ⟨rfl,?_⟩));refine wpS_bind (wpS_mono (wpS_forRange (I:=fun y c st''=>∃ o2 p2 q2 g2 ca cb,c=(none,p2,q2,o2,g2,ca,cb)∧(∃ g',st''=setG st g')∧IJ κ a b o2 p2 q2∧o.size+1≤o2.size)
    (Q:=fun c st''=>(∃g',st''=setG st g')/\((∃r z,c=(some r,z)/\Done κ (a.toList++b.toList) r.toList)\/∃o2 p2 q2 g2 ca cb,c=(none,p2,q2,o2,g2,ca,cb)/\IJ κ a b o2 p2 q2/\o.size+1<=o2.size)) ?st3 ?fi3 ⟨o',p',q',_,_,_,rfl,⟨_,rfl⟩,ij',hs'⟩) ?po3)
   case fi3=>rintro c st'' ⟨o2,p2,q2,g2,ca,cb,rfl,hg,ij2,hs2⟩;exact⟨hg,.inr ⟨o2,p2,q2,g2,ca,cb,rfl,ij2,hs2⟩⟩
   case po3=>
    rintro c st'' ⟨⟨g3,rfl⟩,⟨r,z,rfl,hdn⟩ | ⟨o2,p2,q2,g2,ca,cb,rfl,ij2,hs2⟩⟩
    ·try dsimp only
     exact wpS_pure ⟨r,_,rfl,⟨_,rfl⟩,hdn⟩
    ·try dsimp only
     refine wpS_bind ?_;unfold zL;exact wpS_modify (wpS_pure ⟨o2,p2,q2,_,rfl,⟨_,rfl⟩,ij2,by lia⟩)
   case st3=>
    rintro y c st'' _ hy ⟨o2,p2,q2,g2,ca,cb,rfl,⟨g3,rfl⟩,ij2,hs2⟩;show wpS _ _ _ _ (if g2>1 then hC a b o2 p2 q2 (g2-1) ca cb else hC a b o2 p2 q2 g2 ca cb) _ _;have R1:∀g,wpS (model prog w) A E s (hC a b o2 p2 q2 g ca cb) (EL κ a b (o.size+1) st) (setG st g3):=fun g=>Rg hL ka kb sa sb hb first hd ⟨_,rfl⟩ ij2 hs2
    split
    all_goals
     refine wpS_mono (R1 _) fun r st' hG=>?_;cases r with
     |done c=>exact hG
     |yield c=>obtain⟨hg,o,i,j,g,ca,cb,e,im,hz⟩:=hG;exact⟨o,i,j,g,ca,cb,e,hg,im,hz⟩
end
end
end Ts
namespace Ts
open PySem PyProof.Rows
variable{A:Around}{E:Value->Shared->Prop}{s:Shared}{κ:KeyKind}{kd:SortKind}{a₀:Array Keyed}{prog:Program}{w:World}
theorem ext_get{xs:Array Keyed}{i j n:Nat}(hj:j<=xs.size)(h:n<(xs.extract i j).toList.length):∃hn:i+n<xs.size,i+n<j/\(xs.extract i j).toList[n]=xs[i+n]:=by rw[Dp,Wn]at h;refine⟨by lia,by lia,?_⟩;simp
theorem l8{xs:Array Keyed}(hk:KeysOf κ xs){i j:Nat}(hj:j<=xs.size):Seg κ xs i j↔(xs.extract i j).toList.Pairwise (le κ):=by
 rw[Vj];constructor
 ·intro h p q hp hq hpq;obtain⟨p1,p2,ep⟩:=ext_get hj hp;obtain⟨q1,q2,eq⟩:=ext_get hj hq;rw[ep,eq];have:=h (i+p) (i+q) (by lia) (by lia) q2;rw[(bY hk p1).2,(bY hk q1).2]at this;exact this
 ·intro h p q h1 h2 h3;by_cases e:p=q
  ·subst e;exact VF _
  have hl:(xs.extract i j).toList.length=j-i:=by rw[Dp,Wn];lia
  obtain⟨p1,p2,ep⟩:=ext_get (i:=i) (n:=p-i) hj (by lia);obtain⟨q1,q2,eq⟩:=ext_get (i:=i) (n:=q-i) hj (by lia);have:=h (p-i) (q-i) (by lia) (by lia) (by lia);rw[ep,eq]at this;have e1:KK κ xs p=kp κ (xs[i+(p-i)]):=(congrArg (KK κ xs) (show p=i+(p-i) by lia)).trans (bY hk p1).2;have e2:KK κ xs q=kp κ (xs[i+(q-i)]):=(congrArg (KK κ xs) (show q=i+(q-i) by lia)).trans (bY hk q1).2;rw[e1,e2];exact this
noncomputable def wr(m:List Keyed)(n b:Nat)(xs:Array Keyed):Array Keyed:=(m.zipIdx n).foldl (fun a (p,j)=>a.setIfInBounds (b+j) p) xs
theorem EM:∀(m:List Keyed) (n b:Nat) (xs:Array Keyed),(wr m n b xs).size=xs.size
 |[],n,b,xs=>rfl
 |p::m,n,b,xs=>by show (wr m (n+1) b (xs.setIfInBounds (b+n) p)).size=_;rw[EM m];simp
theorem EN:∀(m:List Keyed) (n b:Nat) (xs:Array Keyed),b+n+m.length<=xs.size->(wr m n b xs).toList=xs.toList.take (b+n)++m++xs.toList.drop (b+n+m.length)
 |[],n,b,xs,h=>by show xs.toList=_;simp
 |p::m,n,b,xs,h=>by
  rw[Ub]at h;show (wr m (n+1) b (xs.setIfInBounds (b+n) p)).toList=_;rw[EN m (n+1) b _ (by simp;lia),Array.toList_setIfInBounds];rw[show b+(n+1)=b+n+1 by lia,List.take_succ,U1 (by simp;lia),List.take_set_of_le (by lia),List.drop_set_of_lt (by lia)];simp
  lia
theorem OT(xs:Array Keyed){i j:Nat}(h:i<=j)(hj:j<=xs.size):xs.toList=xs.toList.take i++((xs.extract i j).toList++xs.toList.drop j):=by
 have h1:=Vu i xs.toList;have h2:xs.toList.drop i=(xs.extract i j).toList++xs.toList.drop j:=by
  have:=yh (a:=xs) (i:=i) (k:=j-i)
  rwa [show i+(j-i)=j by lia]at this
 rw[<- h2,h1]
theorem tR(xs:Array Keyed){i j k:Nat}(h:i<=j)(h2:j<=k)(hk:k<=xs.size):(xs.extract i k).toList=(xs.extract i j).toList++(xs.extract j k).toList:=by simp only[Vy,Vs];have:=Vu (j-i) ((xs.toList.drop i).take (k-i));rw[List.take_take,List.drop_take,X7]at this;rw[show min (j-i) (k-i)=j-i by lia,show k-i-(j-i)=k-j by lia,show i+(j-i)=j by lia]at this;exact this.symm
theorem Rh(i:Nat):mergeAt' i=(do
  let st <- get
  let (some (u,m,c),some (v,n,_)):=((pendingOf st)[i]?,(pendingOf st)[i+1]?)
   |unsupported "internal:list.sort.pending"
  set (setPending st (((pendingOf st).setIfInBounds i (u,m+n,c)).eraseIdxIfInBounds (i+1)))
  let some k <- wJ false (<- elem' (arrOf st) v) (arrOf st) u m 0
   |return false
  let (u,m):=(u+k,m-k)
  if m == 0 then return true
  let some n <- wJ true (<- elem' (arrOf st) (u+m-1)) (arrOf st) v n (n-1)
   |return false
  if n == 0 then return true
  let x:=(arrOf st).extract u v
  let y:=(arrOf st).extract v (v+n)
  let z <- if m<=n then OG x y
   else OH x y
  modify fun st=>setArr st (z.toList.zipIdx.foldl (fun a (p,j)=>a.setIfInBounds (u+j) p) (arrOf st))
  return (failedOf (<- get)).isNone):=rfl
theorem BX{xs:Array Keyed}(hk:KeysOf κ xs)(i j:Nat):KeysOf κ (xs.extract i j):=fun p hp=>hk p (by rw[Vy,Vs]at hp;exact VP (Vz hp))
theorem Ri(hL:mJ (model prog w) A E s κ kd)(h0:KeysOf κ a₀){st:SortSt}(hB:SB kd a₀ st){i u m c n c':Nat}(hp1:(pendingOf st)[i]?=some (u,m,c))(hp2:(pendingOf st)[i+1]?=some (u+m,n,c'))(hm:1<=m)(hn:1<=n)(hsz:u+m+n<=a₀.size)
  (s1:Seg κ (arrOf st) u (u+m)) (s2:Seg κ (arrOf st) (u+m) (u+m+n)) {Q:Bool->SortSt->Prop}
  (h:∀xs g,xs.Perm (arrOf st)->Seg κ xs u (u+m+n)->Out (arrOf st) xs u (u+m+n)->Q true (setG (setArr (setPending st (((pendingOf st).setIfInBounds i (u,m+n,c)).eraseIdxIfInBounds (i+1))) xs) g)):wpS (model prog w) A E s (mergeAt' i) Q st:=by
 have hk:=hB.keys h0;have hA:(arrOf st).size=a₀.size:=hB.size;rw[Rh];refine wpS_bind (wpS_get ?_)
 try dsimp only
 rw[hp1,hp2]
 try dsimp only
 refine wpS_bind ?_;show wpS _ _ _ _ (set _) _ _
 generalize hP:((pendingOf st).setIfInBounds i (u,m+n,c)).eraseIdxIfInBounds (i+1)=P at h ⊢
 refine (show ∀ {R:PUnit→SortSt→Prop},R ⟨⟩ (setPending st P)→wpS (model prog w) A E s (set (setPending st P):StateT SortSt Sem PUnit) R st from fun {R} hR=>by unfold wpS;exact wpAny_pure ⟨rfl,hR⟩) ?_
 generalize hxs:arrOf st=xs at *
 rw[dg (a:=xs) (i:=u+m) (by lia)];refine wpS_bind (wpS_pure ?_);refine wpS_bind (uZ (b:=u) (n:=m) (hint:=0) hL (bY hk (i:=u+m) (by lia)).1 hk (by lia) (by lia) s1 (st:=setPending st P) hB.kind fun k hkm h1 h2=>?_)
 try dsimp only
 have low:∀q,q<k->κ.kle (KK κ xs (u+q)) (KK κ xs (u+m)):=fun q hq=>by
  have:=h1 q hq;unfold pass at this;rw[if_neg (by decide),<- (bY hk (i:=u+m) (by lia)).2]at this;have kY:κ.blt (KK κ xs (u+m)) (KK κ xs (u+q))=false:=by simpa using this
  exact kY
 by_cases hk0:m-k=0
 ·rw[if_pos (by simpa using hk0)];have km:k=m:=by lia
  subst km;refine wpS_pure ?_;have:=h xs (gallopOf st) (Array.Perm.refl _) (fun p q hp hpq hq=>?_) (Out.refl _ _ _)
  ·rw[<- hxs]at this;exact this
  ·by_cases hq1:q<u+k
   ·exact s1 p q hp hpq hq1
   ·by_cases hp1:u+k<=p
    ·exact s2 p q hp1 hpq hq
    ·have:=low (p-u) (by lia);rw[show u+(p-u)=p by lia]at this;exact VG this (s2 _ q (by lia) (by lia) hq)
 rw[if_neg (by simpa using hk0)];rw[dg (a:=xs) (i:=u+k+(m-k)-1) (by lia)];refine wpS_bind (wpS_pure ?_);refine wpS_bind (uZ (b:=u+m) (n:=n) (hint:=n-1) hL (bY hk (i:=u+k+(m-k)-1) (by lia)).1 hk (by lia) (by lia) s2 (st:=setPending st P) hB.kind fun n' hn' h3 h4=>?_)
 try dsimp only
 have hi:∀q,n'<=q->q<n->κ.kle (KK κ xs (u+m-1)) (KK κ xs (u+m+q)):=fun q hq hq2=>by have:=h4 q hq hq2;unfold pass at this;rw[if_pos rfl,<- (bY hk (i:=u+k+(m-k)-1) (by lia)).2]at this;rw[show u+k+(m-k)-1=u+m-1 by lia]at this;exact this
 have lo2:∀q,q<n'->κ.kle (KK κ xs (u+m+q)) (KK κ xs (u+m-1)):=fun q hq=>by have:=h3 q hq;unfold pass at this;rw[if_pos rfl,<- (bY hk (i:=u+k+(m-k)-1) (by lia)).2]at this;rw[show u+k+(m-k)-1=u+m-1 by lia]at this;exact Vm this
 by_cases hn0:n'=0
 ·rw[if_pos (by simpa using hn0)];refine wpS_pure ?_;have:=h xs (gallopOf st) (Array.Perm.refl _) (fun p q hp hpq hq=>?_) (Out.refl _ _ _)
  ·rw[<- hxs]at this;exact this
  ·by_cases hq1:q<u+m
   ·exact s1 p q hp hpq hq1
   ·by_cases hp1:u+m<=p
    ·exact s2 p q hp1 hpq hq
    ·have:=hi (q-(u+m)) (by lia) (by lia);rw[show u+m+(q-(u+m))=q by lia]at this;exact VG (s1 p (u+m-1) hp (by lia) (by lia)) this
 rw[if_neg (by simpa using hn0)];have kx:=BX hk (u+k) (u+m);have ky:=BX hk (u+m) (u+m+n');have sx:(xs.extract (u+k) (u+m)).toList.Pairwise (le κ):=(l8 hk (by lia)).mp fun p q a b c=>s1 p q (by lia) b c;have sy:(xs.extract (u+m) (u+m+n')).toList.Pairwise (le κ):=(l8 hk (by lia)).mp fun p q a b c=>s2 p q a b (by lia);have zx:(xs.extract (u+k) (u+m)).size=m-k:=by rw[Wn];lia
 have zy:(xs.extract (u+m) (u+m+n')).size=n':=by rw[Wn];lia
 have y0:(xs.extract (u+m) (u+m+n'))[0]'(by lia)=xs[u+m]'(by omega):=by simp
 have xl:(xs.extract (u+k) (u+m))[(xs.extract (u+k) (u+m)).size-1]'(by lia)=xs[u+m-1]'(by lia):=by
  simp only[Array.getElem_extract]
  congr 1
  rw[zx];lia
 have first:∀y∈(xs.extract (u+k) (u+m)).toList,le κ ((xs.extract (u+m) (u+m+n'))[0]'(by lia)) y:=fun y hy=>by
  obtain⟨q,hq,hq2,rfl⟩:=dJ (x:=xs) (i:=u+k) (k:=m-k) (by rw[show u+k+(m-k)=u+m by lia];exact hy);rw[y0];have:=h2 (k+q) (by lia) (by lia);unfold pass at this;rw[if_neg (by decide)]at this;have kY:κ.blt (kp κ (xs[u+m]'(by lia))) (KK κ xs (u+(k+q)))=true:=by simpa using this
  rw[show u+(k+q)=u+k+q by lia,(bY hk hq2).2]at kY;exact Vm kY
 have last:∀y∈(xs.extract (u+m) (u+m+n')).toList,le κ y ((xs.extract (u+k) (u+m))[(xs.extract (u+k) (u+m)).size-1]'(by lia)):=fun y hy=>by obtain⟨q,hq,hq2,rfl⟩:=dJ (x:=xs) (i:=u+m) (k:=n') hy;rw[xl];have:=lo2 q hq;rw[(bY hk hq2).2,(bY hk (i:=u+m-1) (by lia)).2]at this;exact this
 have R1:∀(r:Array Keyed) (g:Nat),Done κ ((xs.extract (u+k) (u+m)).toList++(xs.extract (u+m) (u+m+n')).toList) r.toList ->
   wpS (model prog w) A E s ((modify fun st=>setArr st (r.toList.zipIdx.foldl (fun a (p,j)=>a.setIfInBounds (u+k+j) p) (arrOf st))) >>= fun _=>get >>= fun st=>pure (failedOf st).isNone) Q (setG (setPending st P) g):=fun r g ⟨rp,rs⟩=>by
  refine wpS_bind (wpS_modify ?_);refine wpS_bind (wpS_get ?_);refine wpS_pure ?_;have rl:r.toList.length=m-k+n':=by have:=rp.length_eq;simp only[UO,Dp,zx,zy]at this ⊢;exact this
  have rl2:r.size=m-k+n':=by rw[<- Dp];exact rl
  have wl:(wr r.toList 0 (u+k) xs).toList=xs.toList.take (u+k)++(r.toList++xs.toList.drop (u+m+n')):=by rw[EN r.toList 0 (u+k) xs (by lia),Yk,rl,show u+k+(m-k+n')=u+m+n' by lia,VC]
  have M7:(wr r.toList 0 (u+k) xs).Perm xs:=by
   rw[V2,wl];have e:=OT xs (i:=u+k) (j:=u+m+n') (by lia) (by lia);rw[tR xs (i:=u+k) (j:=u+m) (k:=u+m+n') (by lia) (by lia) (by lia)]at e
   conv=>rhs;rw[e]
   exact Xg _ (XD.append_right _ rp)
  have wz:(wr r.toList 0 (u+k) xs).size=xs.size:=EM _ _ _ _;have wk:KeysOf κ (wr r.toList 0 (u+k) xs):=fun p hp=>hk p ((V2.mp M7).mem_iff.mp hp);have Rj:Out xs (wr r.toList 0 (u+k) xs) (u+k) (u+m+n'):=fun q hq=>by
   rw[<- U7,<- U7,wl];rcases hq with hq | hq
   ·rw[Um (by simp;lia),Wc hq]
   ·rw[UI (by simp;lia),UI (by simp;lia),List.getElem?_drop]
    congr 1
    simp
    lia
  have hfl:(failedOf (setArr (setG (setPending st P) g) (wr r.toList 0 (u+k) xs))).isNone=true:=by show (failedOf st).isNone=true;rw[hB.failed];rfl
  have key:Q true (setG (setArr (setPending st P) (wr r.toList 0 (u+k) xs)) g):=by
   refine h _ g M7 ?_ (Rj.mono (by lia) (by lia));rw[l8 wk (by lia)];rw[tR _ (i:=u) (j:=u+k) (k:=u+m+n) (by lia) (by lia) (by lia),tR _ (i:=u+k) (j:=u+m+n') (k:=u+m+n) (by lia) (by lia) (by lia)];have part:∀i j,(j<=u+k\/u+m+n'<=i)->j<=xs.size->((wr r.toList 0 (u+k) xs).extract i j).toList=(xs.extract i j).toList:=fun i j hij hj=>by
    apply List.ext_getElem?;intro q;by_cases hq:q<j-i
    ·rw[U7,U7,Array.getElem?_extract,Array.getElem?_extract,wz];split
     ·exact Rj _ (by lia)
     ·rfl
    ·rw[Vg (by simp;lia),Vg (by simp;lia)]
   have mid:((wr r.toList 0 (u+k) xs).extract (u+k) (u+m+n')).toList=r.toList:=by rw[Vy,Vs,wl,List.drop_append_of_le_length (by simp;lia),Xa (by simp<;>lia),Uk,List.take_append_of_le_length (by lia),VB (by lia)]
   rw[part u (u+k) (.inl (Nat.le_refl _)) (by lia),part (u+m+n') (u+m+n) (.inr (Nat.le_refl _)) (by lia),mid];have F:=(l8 hk (i:=u) (j:=u+k) (by lia)).mp fun p q a b c=>s1 p q a b (by lia);have L:=(l8 hk (i:=u+m+n') (j:=u+m+n) (by lia)).mp fun p q a b c=>s2 p q (by lia) b c;have fx:∀x∈(xs.extract u (u+k)).toList,∀y,(y∈(xs.extract (u+k) (u+m)).toList\/y∈(xs.extract (u+m) (u+m+n)).toList)->le κ x y:=fun x hx y hy=>by
    obtain⟨p,hp,hp2,rfl⟩:=dJ (x:=xs) (i:=u) (k:=k) hx;have t1:=low p hp;rw[(bY hk hp2).2]at t1;rcases hy with hy | hy
    ·obtain⟨q,hq,hq2,rfl⟩:=dJ (x:=xs) (i:=u+k) (k:=m-k) (by rw[show u+k+(m-k)=u+m by lia];exact hy);have:=s1 (u+p) (u+k+q) (by lia) (by lia) (by lia);rw[(bY hk hp2).2,(bY hk hq2).2]at this;exact this
    ·obtain⟨q,hq,hq2,rfl⟩:=dJ (x:=xs) (i:=u+m) (k:=n) hy;have t2:=s2 (u+m) (u+m+q) (by lia) (by lia) (by lia);rw[(bY hk hq2).2]at t2;exact VG t1 t2
   have Tp:∀y∈(xs.extract (u+m) (u+m+n')).toList,y∈(xs.extract (u+m) (u+m+n)).toList:=fun y hy=>by rw[tR xs (i:=u+m) (j:=u+m+n') (k:=u+m+n) (by lia) (by lia) (by lia)];exact Va _ hy
   have Tq:∀y∈(xs.extract (u+m+n') (u+m+n)).toList,y∈(xs.extract (u+m) (u+m+n)).toList:=fun y hy=>by rw[tR xs (i:=u+m) (j:=u+m+n') (k:=u+m+n) (by lia) (by lia) (by lia)];exact UD _ hy
   refine U5.mpr ⟨F,U5.mpr ⟨rs,L,fun x hx y hy=>?_⟩,fun x hx y hy=>?_⟩
   ·rcases Uy.mp (rp.mem_iff.mp hx) with hx | hx
    ·obtain⟨p,hp,hp2,rfl⟩:=dJ (x:=xs) (i:=u+k) (k:=m-k) (by rw[show u+k+(m-k)=u+m by lia];exact hx);obtain⟨q,hq,hq2,rfl⟩:=dJ (x:=xs) (i:=u+m+n') (k:=n-n') (by rw[show u+m+n'+(n-n')=u+m+n by lia];exact hy);have t1:=s1 (u+k+p) (u+m-1) (by lia) (by lia) (by lia);have t2:=hi (n'+q) (by lia) (by lia);rw[show u+m+(n'+q)=u+m+n'+q by lia,(bY hk hq2).2]at t2;rw[(bY hk hp2).2]at t1;exact VG t1 t2
    ·obtain⟨p,hp,hp2,rfl⟩:=dJ (x:=xs) (i:=u+m) (k:=n') hx;obtain⟨q,hq,hq2,rfl⟩:=dJ (x:=xs) (i:=u+m+n') (k:=n-n') (by rw[show u+m+n'+(n-n')=u+m+n by lia];exact hy);have:=s2 (u+m+p) (u+m+n'+q) (by lia) (by lia) (by lia);rw[(bY hk hp2).2,(bY hk hq2).2]at this;exact this
   ·rcases Uy.mp hy with hy | hy
    ·rcases Uy.mp (rp.mem_iff.mp hy) with hy | hy
     ·exact fx x hx y (.inl hy)
     ·exact fx x hx y (.inr (Tp y hy))
    ·exact fx x hx y (.inr (Tq y hy))
  have goal:Q (failedOf (setArr (setG (setPending st P) g) (wr r.toList 0 (u+k) xs))).isNone (setArr (setG (setPending st P) g) (wr r.toList 0 (u+k) xs)):=by rw[hfl];exact key
  have Tr:arrOf (setG (setPending st P) g)=xs:=hxs;rw[<- Tr]at goal;exact goal
 by_cases hmn:m-k<=n'
 ·rw[if_pos hmn];exact wpS_bind (ON hL kx ky sx sy (by lia) (by lia) first last (st:=setPending st P) hB.kind R1)
 ·rw[if_neg hmn];exact wpS_bind (OS hL kx ky sx sy (by lia) (by lia) first last (st:=setPending st P) hB.kind R1)
end Ts
namespace Ts
open PySem PyProof.Rows
variable{A:Around}{E:Value->Shared->Prop}{s:Shared}{κ:KeyKind}{kd:SortKind}{a₀:Array Keyed}{prog:Program}{w:World}
noncomputable abbrev Run:=Nat×Nat×Nat
def Cov:List Run->Nat->Nat->Prop
 |[],i,j=>i=j
 |r::l,i,j=>r.1=i/\1<=r.2.1/\Cov l (i+r.2.1) j
theorem Cov.le:∀{l:List Run} {i j:Nat},Cov l i j->i+l.length<=j
 |[],i,j,h=>by cases h;simp
 |r::l,i,j,⟨h1,h2,h3⟩=>by have:=h3.le;rw[Ub];lia
theorem Cov.app:∀{l m:List Run} {i j:Nat},Cov (l++m) i j↔∃k,Cov l i k/\Cov m k j
 |[],m,i,j=>⟨fun h=>⟨i,rfl,h⟩,fun⟨k,h1,h2⟩=>by cases h1;exact h2⟩
 |r::l,m,i,j=>by
  constructor
  ·rintro⟨h1,h2,h3⟩;obtain⟨k,h4,h5⟩:=Cov.app.mp h3;exact⟨k,⟨h1,h2,h4⟩,h5⟩
  ·rintro⟨k,⟨h1,h2,h4⟩,h5⟩;exact⟨h1,h2,Cov.app.mpr ⟨k,h4,h5⟩⟩
theorem Cov.bounds:∀{l:List Run} {i j:Nat},Cov l i j->∀r∈l,i<=r.1/\r.1+r.2.1<=j
 |[],i,j,h,r,hr=>by cases hr
 |q::l,i,j,⟨h1,h2,h3⟩,r,hr=>by
  rcases Ui.mp hr with rfl | hr
  ·have:=h3.le;lia
  ·have:=h3.bounds r hr;lia
def OU(κ:KeyKind)(xs:Array Keyed)(l:List Run):Prop:=∀r∈l,Seg κ xs r.1 (r.1+r.2.1)
structure SP(κ:KeyKind)(kd:SortKind)(a₀:Array Keyed)(st:SortSt)(P:List Run)(lo:Nat):Prop where
 sb:SB kd a₀ st
 pd:(pendingOf st).toList=P
 cov:Cov P 0 lo
 sg:OU κ (arrOf st) P
 le:lo<=a₀.size
theorem yi(hL:mJ (model prog w) A E s κ kd)(h0:KeysOf κ a₀){st:SortSt}{L1 L2:List Run}{r1 r2:Run}{lo:Nat}(h:SP κ kd a₀ st (L1++r1::r2::L2) lo){Q:Bool->SortSt->Prop}
  (q:∀st',SP κ kd a₀ st' (L1++(r1.1,r1.2.1+r2.2.1,r1.2.2)::L2) lo->(∀i j,lo<=i->Seg κ (arrOf st) i j->Seg κ (arrOf st') i j)->Q true st'):wpS (model prog w) A E s (mergeAt' L1.length) Q st:=by
 obtain⟨k,c1,c2,c3,c4⟩:=Cov.app.mp h.cov;obtain⟨c5,c6,c7⟩:=c4;obtain⟨u,m,c⟩:=r1;obtain⟨v,n,c'⟩:=r2;dsimp only at c2 c3 c5 c6 c7 q;subst c2;subst c5;have hp1:(pendingOf st)[L1.length]?=some (u,m,c):=by rw[<- U7,h.pd,UI (Nat.le_refl _),Nat.sub_self];rfl
 have hp2:(pendingOf st)[L1.length+1]?=some (u+m,n,c'):=by rw[<- U7,h.pd,UI (by lia),show L1.length+1-L1.length=1 by lia];rfl
 have s1:=h.sg (u,m,c) (by simp);have s2:=h.sg (u+m,n,c') (by simp);have b2:=c7.le;refine Ri hL h0 h.sb hp1 hp2 c3 c6 (by have:=h.le;lia) s1 s2 fun xs g hp hs ho=>q _ ⟨⟨?_,h.sb.kind,h.sb.failed⟩,?_,?_,?_,h.le⟩ fun i j hi hg=>ho.seg (.inr (by lia)) hg
 ·exact hp.trans h.sb.perm
 ·show (((pendingOf st).setIfInBounds L1.length (u,m+n,c)).eraseIdxIfInBounds (L1.length+1)).toList=_;have hz:(pendingOf st).size=L1.length+(2+L2.length):=by rw[<- Dp,h.pd];simp;lia
  rw[Array.eraseIdxIfInBounds,dif_pos (by simp;lia)];rw[Array.toList_eraseIdx,Array.toList_setIfInBounds,h.pd];rw[List.set_append_right _ _ (Nat.le_refl _),Nat.sub_self,Ul,List.eraseIdx_append_of_length_le (by lia),show L1.length+1-L1.length=1 by lia];rfl
 ·refine Cov.app.mpr ⟨u,c1,rfl,by show 1<=m+n;lia,?_⟩;show Cov L2 (u+(m+n)) lo;rw[<- Nat.add_assoc];exact c7
 ·intro r hr;show Seg κ xs r.1 (r.1+r.2.1);rcases Uy.mp hr with hr | hr
  ·have:=c1.bounds r hr;exact ho.seg (.inl (by lia)) (h.sg r (by simp[hr]))
  ·rcases Ui.mp hr with rfl | hr
   ·show Seg κ xs u (u+(m+n));rw[<- Nat.add_assoc];exact hs
   ·have:=c7.bounds r hr;exact ho.seg (.inr (by lia)) (h.sg r (by simp[hr]))
theorem two_last{α:Type}{l:List α}(h:1<l.length):∃L1 a b,l=L1++[a,b]:=by
 have h1:l≠[]:=by intro z;rw[z]at h;simp at h
 have h2:l.dropLast≠[]:=by
  intro z;have:=congrArg List.length z;rw[List.length_dropLast]at this;simp at this
  lia
 exact ⟨l.dropLast.dropLast,l.dropLast.getLast h2,l.getLast h1,by
  conv=>lhs;rw[<- List.dropLast_concat_getLast h1,<- List.dropLast_concat_getLast h2]
  simp⟩
theorem xO{n lo:Nat}{st2:SortSt}{P:List Run}(hn1:1<=n)(hn2:lo+n<=a₀.size)(sp2:SP κ kd a₀ st2 P lo)(sg2:Seg κ (arrOf st2) lo (lo+n)):SP κ kd a₀ (setPending st2 ((pendingOf st2).push (lo,n,0))) (P++[(lo,n,0)]) (lo+n):=
 ⟨sp2.sb.pend _,by show ((pendingOf st2).push _).toList=_;rw [VS,sp2.pd],Cov.app.mpr ⟨lo,sp2.cov,rfl,hn1,rfl⟩,fun r hr=>by
  rcases Uy.mp hr with hr | hr
  ·exact sp2.sg r hr
  ·rw[UK]at hr;subst hr;exact sg2,hn2⟩
theorem BY{lo c:Nat}{st2:SortSt}{P:List Run}(sp2:SP κ kd a₀ st2 P lo):∃P',SP κ kd a₀ (setPending st2 ((pendingOf st2).modify ((pendingOf st2).size-1) fun x=>(x.fst,x.2.fst,c))) P' lo:=by
 have cv:∀(P:List Run) (k i j:Nat),Cov P i j->Cov (P.modify k fun x=>(x.fst,x.2.fst,c)) i j:=fun P=>by
  induction P with
  |nil=>intro k i j h;cases k<;>exact h
  |cons r P ih=>
   intro k i j h;cases k with
   |zero=>exact h
   |succ k=>exact⟨h.1,h.2.1,ih k _ _ h.2.2⟩
 have sg:∀(P:List Run) (k:Nat),OU κ (arrOf st2) P->OU κ (arrOf st2) (P.modify k fun x=>(x.fst,x.2.fst,c)):=fun P=>by
  induction P with
  |nil=>intro k h;cases k<;>exact h
  |cons r P ih=>
   intro k h;cases k with
   |zero=>
    intro q hq;rcases Ui.mp (show q∈(r.1,r.2.1,c)::P from hq) with rfl | hq
    ·exact h r (by simp)
    ·exact h q (by simp[hq])
   |succ k=>
    intro q hq;rcases Ui.mp (show q∈r::P.modify k _ from hq) with rfl | hq
    ·exact h q (by simp)
    ·exact ih k (fun z hz=>h z (by simp[hz])) q hq
 exact⟨P.modify ((pendingOf st2).size-1) fun x=>(x.fst,x.2.fst,c),sp2.sb.pend _,by show ((pendingOf st2).modify _ _).toList=_;rw[Array.toList_modify,sp2.pd],cv _ _ _ _ sp2.cov,sg _ _ sp2.sg,sp2.le⟩
theorem Lu(hL:mJ (model prog w) A E s κ kd)(h0:KeysOf κ a₀){st:SortSt}(hB:SB kd a₀ st)(hp:pendingOf st=#[])(h1:1<=a₀.size){Q:Unit->SortSt->Prop}
  (h:∀st',SB kd a₀ st'->Seg κ (arrOf st') 0 a₀.size->Q () st'):wpS (model prog w) A E s sortRuns' Q st:=by
 rw[sortRuns'_eq];refine wpS_bind (wpS_get ?_)
 try dsimp only
 rw[hB.size]
 generalize minRun' a₀.size a₀.size 0=mr
 refine wpS_bind (wpS_mono (wpS_forRange (I:=fun x c st'=>∃ lo P,c=(none,lo)∧x≤lo∧SP κ kd a₀ st' P lo)
  (Q:=fun c st'=>∃P,c=(none,a₀.size)/\SP κ kd a₀ st' P a₀.size) ?st1 ?fi1 ⟨0,[],rfl,Nat.le_refl _,⟨hB,by rw[hp],rfl,fun r hr=>by (cases hr),by lia⟩⟩) ?po1)
 case fi1=>
  rintro c st' ⟨lo,P,rfl,hx,sp⟩;have:=sp.le;have e:lo=a₀.size:=by lia
  subst e;exact⟨P,rfl,sp⟩
 case st1=>
  rintro x c st' _ hx ⟨lo,P,rfl,hxl,sp⟩
  try dsimp only
  by_cases hlo:lo≥a₀.size
  ·rw[if_pos hlo];have:=sp.le;have e:lo=a₀.size:=by lia
   subst e;exact wpS_pure ⟨P,rfl,sp⟩
  rw[if_neg hlo];refine wpS_bind (AS hL h0 sp.sb (by lia) (by lia) fun n xs hn1 hn2 hpm hsg hout=>?_)
  try dsimp only
  have M8:Out (arrOf st') xs lo a₀.size:=hout.mono (Nat.le_refl _) (by lia);have spx:∀ys,ys.Perm (arrOf st')->Out (arrOf st') ys lo a₀.size->SP κ kd a₀ (setArr st' ys) P lo:=fun ys hpm hout=>⟨sp.sb.arr hpm,sp.pd,sp.cov,fun r hr=>hout.seg (.inl (sp.cov.bounds r hr).2) (sp.sg r hr),sp.le⟩;by_cases hmr:n<mr
  ·rw[if_pos hmr];refine wpS_bind (wpS_lift (wpAny_rule ⟨rfl,?_⟩));have hB2:SB kd a₀ (setArr st' xs):=sp.sb.arr hpm;refine wpS_bind (OC hL h0 hB2 (by lia) hn1 (by lia) hsg fun ys hp2 hs2 ho2=>?_);rw[if_neg (by decide)];have hk1:1<=min (a₀.size-lo) mr:=by lia
   have hk2:lo+min (a₀.size-lo) mr<=a₀.size:=by lia
   have sp2:=spx ys (hp2.trans hpm) (M8.trans (ho2.mono (Nat.le_refl _) (by lia)));have sg2:Seg κ (arrOf (setArr st' ys)) lo (lo+min (a₀.size-lo) mr):=hs2;show wpS _ _ _ _ _ _ (setArr st' ys)
   generalize min (a₀.size-lo) mr=k at hk1 hk2 sg2 ⊢
   refine wpS_bind (wpS_get ?_);split
   ·rename_i u m c hb;refine wpS_bind (wpS_mono (wpS_forRange (I:=fun _ c st'=>c=(none,())/\∃P',SP κ kd a₀ st' P' lo/\Seg κ (arrOf st') lo (lo+k)) (Q:=fun c st'=>c=(none,())/\∃P',SP κ kd a₀ st' P' lo/\Seg κ (arrOf st') lo (lo+k)) ?stA (fun c st' z=>z) ⟨rfl,P,sp2,sg2⟩) ?poA)
    case stA=>
     rintro x c st' _ _ ⟨rfl,P',sp',sg'⟩;refine wpS_bind (wpS_get ?_)
     try dsimp only
     split
     ·rename_i e1 e2 old ho;split
      ·exact wpS_pure ⟨rfl,P',sp',sg'⟩
      ·have hz:1<(pendingOf st').size:=by
        by_cases z:(pendingOf st').size>1
        ·exact z
        ·rw[if_neg z]at ho;cases ho
       obtain⟨L1,r1,r2,rfl⟩:=two_last (l:=P') (by rw[<- sp'.pd,Dp];exact hz);have hl:(pendingOf st').size-2=L1.length:=by rw[<- Dp,sp'.pd];simp
       rw[hl];refine wpS_bind (yi hL h0 sp' fun st3 sp3 k3=>?_);rw[if_neg (by decide)];exact wpS_pure ⟨rfl,_,sp3,k3 _ _ (Nat.le_refl _) sg'⟩
     ·exact wpS_pure ⟨rfl,P',sp',sg'⟩
    case poA=>
     rintro c st' ⟨rfl,P',sp',sg'⟩
     try dsimp only
     refine wpS_bind (wpS_modify ?_);obtain⟨P2,sp4⟩:=BY (c:=power' a₀.size (2*u+m) (2*u+m+m+k) a₀.size) sp';exact wpS_bind (wpS_modify (wpS_pure ⟨lo+k,_,rfl,by lia,xO (by lia) (by lia) sp4 sg'⟩))
   ·exact wpS_bind (wpS_modify (wpS_pure ⟨lo+k,_,rfl,by lia,xO (by lia) (by lia) sp2 sg2⟩))
  ·rw[if_neg hmr];have sp2:=spx xs hpm M8;have sg2:Seg κ (arrOf (setArr st' xs)) lo (lo+n):=hsg;refine wpS_bind (wpS_get ?_);split
   ·rename_i u m c hb;refine wpS_bind (wpS_mono (wpS_forRange (I:=fun _ c st'=>c=(none,())/\∃P',SP κ kd a₀ st' P' lo/\Seg κ (arrOf st') lo (lo+n)) (Q:=fun c st'=>c=(none,())/\∃P',SP κ kd a₀ st' P' lo/\Seg κ (arrOf st') lo (lo+n)) ?stA (fun c st' z=>z) ⟨rfl,P,sp2,sg2⟩) ?poA)
    case stA=>
     rintro x c st' _ _ ⟨rfl,P',sp',sg'⟩;refine wpS_bind (wpS_get ?_)
     try dsimp only
     split
     ·rename_i e1 e2 old ho;split
      ·exact wpS_pure ⟨rfl,P',sp',sg'⟩
      ·have hz:1<(pendingOf st').size:=by
        by_cases z:(pendingOf st').size>1
        ·exact z
        ·rw[if_neg z]at ho;cases ho
       obtain⟨L1,r1,r2,rfl⟩:=two_last (l:=P') (by rw[<- sp'.pd,Dp];exact hz);have hl:(pendingOf st').size-2=L1.length:=by rw[<- Dp,sp'.pd];simp
       rw[hl];refine wpS_bind (yi hL h0 sp' fun st3 sp3 k3=>?_);rw[if_neg (by decide)];exact wpS_pure ⟨rfl,_,sp3,k3 _ _ (Nat.le_refl _) sg'⟩
     ·exact wpS_pure ⟨rfl,P',sp',sg'⟩
    case poA=>
     rintro c st' ⟨rfl,P',sp',sg'⟩
     try dsimp only
     refine wpS_bind (wpS_modify ?_);obtain⟨P2,sp4⟩:=BY (c:=power' a₀.size (2*u+m) (2*u+m+m+n) a₀.size) sp';exact wpS_bind (wpS_modify (wpS_pure ⟨lo+n,_,rfl,by lia,xO (by lia) (by lia) sp4 sg'⟩))
   ·exact wpS_bind (wpS_modify (wpS_pure ⟨lo+n,_,rfl,by lia,xO (by lia) (by lia) sp2 sg2⟩))
 case po1=>
  rintro c st' ⟨P,rfl,sp⟩
  try dsimp only
  have hPl:=sp.cov.le;refine wpS_bind (wpS_mono (wpS_forRange (I:=fun x c st'=>c=(none,())/\∃P,SP κ kd a₀ st' P a₀.size/\P.length+x<=a₀.size+1) (Q:=fun c st'=>c=(none,())/\∃P,SP κ kd a₀ st' P a₀.size/\P.length<=1) ?st2 ?fi2 ⟨rfl,P,sp,by lia⟩) ?po2)
  case fi2=>rintro c st' ⟨rfl,P,sp,hl⟩;exact⟨rfl,P,sp,by lia⟩
  case st2=>
   rintro x c st' _ hx ⟨rfl,P,sp,hl⟩
   try dsimp only
   refine wpS_bind (wpS_get ?_);have RN:(pendingOf st').size=P.length:=by rw[<- Dp,sp.pd]
   by_cases h2:(pendingOf st').size<=1
   ·rw[if_pos h2];exact wpS_pure ⟨rfl,P,sp,by lia⟩
   rw[if_neg h2]
   generalize hi:(if (Option.any (fun z=>decide (z<((pendingOf st')[(pendingOf st').size-2+1]?.elim 0 fun z=>z.2.1))) (if (pendingOf st').size-2>0 then (pendingOf st')[(pendingOf st').size-2-1]?.map fun z=>z.2.1 else none))=true then (pendingOf st').size-2-1 else (pendingOf st').size-2)=i
   have hle:∀(c:Bool) (m:Nat),(if c=true then m-1 else m)<=m:=fun c m=>by cases c<;>simp
   have hi2:i<=(pendingOf st').size-2:=hi▸hle _ _;have hib:i+1<P.length:=by lia
   have e:P=P.take i++P[i]::P[i+1]::P.drop (i+2):=by have a1:=VD (l:=P) (i:=i) (by lia);have a2:=VD (l:=P) (i:=i+1) (by lia);rw[<- a2,<- a1,Vu]
   have sp':=sp;rw[e]at sp';have RM:(P.take i).length=i:=by rw[Vn];lia
   have mg:=yi (A:=A) (E:=E) (s:=s) hL h0 sp' (Q:=fun b st''=>b=true/\∃P2,SP κ kd a₀ st'' P2 a₀.size/\P2.length+(x+1)<=a₀.size+1) fun st3 sp3 k3=>⟨rfl,_,sp3,by simp;lia⟩;rw[RM]at mg;refine wpS_bind (wpS_mono mg fun b st3 hb=>?_);obtain⟨rfl,P2,sp2,hl2⟩:=hb;rw[if_neg (by decide)];exact wpS_pure ⟨rfl,P2,sp2,hl2⟩
  case po2=>
   rintro c st' ⟨rfl,P,sp,hl⟩;refine wpS_pure (h st' sp.sb ?_)
   match P,hl,sp with
   |[],_,sp=>have:=sp.cov;unfold Cov at this;lia
   |[r],_,sp=>obtain⟨c1,c2,c3⟩:=sp.cov;have:=sp.sg r (by simp);unfold Cov at c3;rw[c1,c3]at this;exact this
   |_::_::_,hl,_=>simp at hl
end Ts
namespace Ts
open PySem PyProof.Rows
variable{A:Around}{E:Value->Shared->Prop}{s:Shared}{κ:KeyKind}{kd:SortKind}{prog:Program}{w:World}
theorem done_one{vs:List Value}(h:vs.toArray.size<2):Seg κ (pairsOf vs) 0 (pairsOf vs).size:=fun p q _ h2 h3=>by
 rw[pairsOf_size]at h3;simp at h;have:p=q:=by lia
 subst this;exact VF _
theorem Lv{a:Addr}{vs:List Value}{n:Nat}{R:Fin->Shared->Prop}(ho:s.heap.get? a=some (seqObj "list" vs.toArray n))(hn:vs.length<=100000)
  (hk:KeysOf κ (pairsOf vs)) (hkk:∀h',(∀b o,b≠a->s.heap.get? b=some o->h'.get? b=some o)->2<=vs.length->∀{Q:SortKind->Shared->Prop},Q kd { s with heap:=h' }->wpAny (model prog w) A (keyKind' vs.toArray) Q E { s with heap:=h' })
  (hL:∀h',(∀b o,b≠a->s.heap.get? b=some o->h'.get? b=some o)->mJ (model prog w) A E { s with heap:=h' } κ kd)
  (h:∀st':SortSt,(arrOf st').Perm (pairsOf vs)->Seg κ (arrOf st') 0 (pairsOf vs).size->R (.done (.ret .none)) { s with heap:=sortedHeap s.heap a vs ((arrOf st').map (·.2)) }) :
  wpAny (model prog w) A (Builtin.«list.sort» ⟨[.ref a],[]⟩) R E s:=by
 have lt:=Uh ho;have fits:sizeLine=sizeLine:=rfl;rw[list_sort_plain];refine wpAny_bind (listItems_at ho rfl (wpAny_bind (listUpdate_at ho rfl ?_ (hsz:=by simp;exact Nat.le_trans hn (by decide)) (hsz2:=U6 _))));obtain⟨ep,h1⟩:∃ep,(s.heap.update a (Wl fun _=>#[])).get? a=some (seqObj "list" #[] ep):=⟨_,get?_update_seq ho _⟩
 refine wpAny_bind (seqEpoch_at h1 rfl (wpAny_bind (wpAny_newTuple (wpAny_bind (wpAny_newList (wpAny_holding ?_))))));have h6:(((s.heap.update a (Wl fun _=>#[])).push (seqObj "tuple" vs.toArray 0)).push (seqObj "list" #[] 0)).get? a=some (seqObj "list" #[] ep):=by have z1:(s.heap.update a (Wl fun _=>#[])).objs.size=s.heap.objs.size:=Heap.size_update _ _ _;rw[W6 _ _ _ (by rw[size_push',z1];exact UM (V5 lt)),W6 _ _ _ (by rw[z1];exact UM lt)];exact h1
 have ext:∀b o,b≠a->s.heap.get? b=some o->(((s.heap.update a (Wl fun _=>#[])).push (seqObj "tuple" vs.toArray 0)).push (seqObj "list" #[] 0)).get? b=some o:=fun b o hb e=>by have z1:(s.heap.update a (Wl fun _=>#[])).objs.size=s.heap.objs.size:=Heap.size_update _ _ _;have lb:=Uh e;rw[W6 _ _ _ (by rw[size_push',z1];exact UM (V5 lb)),W6 _ _ _ (by rw[z1];exact UM lb),Heap.get?_update_ne _ _ _ _ hb];exact e
 show wpAny (model prog w) A _ R E { s with heap:=(((s.heap.update a (Wl fun _=>#[])).push (seqObj "tuple" vs.toArray 0)).push (seqObj "list" #[] 0)) };have hkk':=hkk _ ext;have hL':=hL _ ext;have R1:∀st':SortSt,failedOf st'=none->(arrOf st').Perm (pairsOf vs)->Seg κ (arrOf st') 0 (pairsOf vs).size ->
   wpAny (model prog w) A (do
    let d <- seqEpoch a
    let touched:=d != ep
    Builtin.List.listUpdate (UU a) fun _=>Array.map (fun x=>x.snd) (arrOf st')
    if let some e:=failedOf st' then
     rule "list.sort.comparison-raised"
     throw e
    if touched then
     rule "list.sort.modified"
     raiseError "ValueError" "list modified during sort"
    ret .none) R E { s with heap:=(((s.heap.update a (Wl fun _=>#[])).push (seqObj "tuple" vs.toArray 0)).push (seqObj "list" #[] 0)) }:=fun st' hf hp hs=>by
  refine wpAny_bind (seqEpoch_at h6 rfl ?_);have hz:(Array.map (fun x=>x.snd) (arrOf st')).size=vs.length:=by rw[Xv,hp.size_eq,pairsOf_size]
  refine wpAny_bind (listUpdate_at h6 rfl ?_ (hsz:=U6 _) (hsz2:=by rw[hz];exact Nat.le_trans hn (by decide)));rw[hf];simp only[bne_self_eq_false,Uu,if_false];exact wpAny_pure (h st' hp hs)
 by_cases h2:vs.toArray.size<2
 ·rw[if_pos h2,if_pos h2];refine wpAny_bind (wpAny_pure ?_);refine wpAny_bind (show wpAny (model prog w) A ((pure ():StateT SortSt Sem Unit).run (XQ general' (vs.toArray.zip vs.toArray) #[] 7 none)) _ E _ from ?_);rw[StateT.run_pure];refine wpAny_pure ?_;exact R1 (XQ general' (vs.toArray.zip vs.toArray) #[] 7 none) rfl (Array.Perm.refl _) (done_one h2)
 ·rw[if_neg h2,if_neg h2];have hl:2<=vs.length:=by simp at h2;lia
  refine wpAny_bind (hkk' hl ?_);refine wpAny_bind (wpAny_mono (Lu (κ:=κ) hL' hk (st:=XQ kd (vs.toArray.zip vs.toArray) #[] 7 none) ⟨Array.Perm.refl _,rfl,rfl⟩ rfl (by rw [pairsOf_size];lia)
   (Q:=fun _ st'=>(arrOf st').Perm (pairsOf vs)/\failedOf st'=none/\Seg κ (arrOf st') 0 (pairsOf vs).size) fun st' sb sg=>⟨sb.perm,sb.failed,sg⟩) ?_ fun _ _ e=>e)
  rintro⟨⟨⟩,st'⟩ s' ⟨rfl,hp,hf,hs⟩;exact R1 st' hf hp hs
end Ts
namespace Ts
open PySem PyProof.Rows
variable{A:Around}{E:Value->Shared->Prop}{s:Shared}{κ:KeyKind}{kd:SortKind}{a₀:Array Keyed}{prog:Program}{w:World}
end Ts
namespace Ts
open PySem PyProof.Rows
variable{A:Around}{E:Value->Shared->Prop}{s:Shared}{κ:KeyKind}{kd:SortKind}{prog:Program}{w:World}
end Ts
namespace Dm
section
variable{α:Type}
noncomputable def lx:List Int->List Int->Bool
 |[],[]=>false
 |[],_::_=>true
 |_::_,[]=>false
 |a::x,b::y=>if a=b then lx x y else decide (a<b)
theorem qo:∀a,lx a a=false
 |[]=>rfl
 |a::x=>by rw[lx,if_pos rfl,qo x]
theorem n8:∀a b c,lx a b=true->lx b c=true->lx a c=true
 |[],[],_,h,_=>by cases h
 |[],_::_,[],_,h=>by cases h
 |[],_::_,_::_,_,_=>rfl
 |_::_,[],_,h,_=>by cases h
 |_::_,_::_,[],_,h=>by cases h
 |a::x,b::y,c::z,h1,h2=>by
  rw[lx]at h1 h2 ⊢;by_cases e1:a=b
  ·subst e1;rw[if_pos rfl]at h1;by_cases e2:a=c
   ·subst e2;rw[if_pos rfl]at h2 ⊢;exact n8 x y z h1 h2
   ·rw[if_neg e2]at h2 ⊢;exact h2
  ·rw[if_neg e1]at h1;have h1:=of_decide_eq_true h1;by_cases e2:b=c
   ·subst e2;rw[if_neg e1];exact decide_eq_true h1
   ·rw[if_neg e2]at h2;have h2:=of_decide_eq_true h2;rw[if_neg (by lia)];exact decide_eq_true (by lia)
theorem n9:∀a b,lx a b=false->lx b a=false->a=b
 |[],[],_,_=>rfl
 |[],_::_,h,_=>by cases h
 |_::_,[],_,h=>by cases h
 |a::x,b::y,h1,h2=>by
  rw[lx]at h1 h2;by_cases e:a=b
  ·subst e;rw[if_pos rfl]at h1 h2;rw[n9 x y h1 h2]
  ·rw[if_neg e]at h1;rw[if_neg (fun z=>e z.symm)]at h2;have h1:=of_decide_eq_false h1;have h2:=of_decide_eq_false h2
   lia
theorem Dq(a b c:List Int)(h:lx a c=true):lx a b=true\/lx b c=true:=by
 by_cases h1:lx a b=true
 ·exact .inl h1
 ·refine .inr ?_;have h1':lx a b=false:=by simpa using h1
  by_cases h2:lx b a=true
  ·exact n8 b a c h2 h
  ·have:=n9 a b h1' (by simpa using h2);subst this;exact h
noncomputable def ins{α:Type}(lt:α->α->Bool)(x:α):List α->List α
 |[]=>[x]
 |y::l=>if lt y x then y::ins lt x l else x::y::l
noncomputable def l9{α:Type}(lt:α->α->Bool):List α->List α
 |[]=>[]
 |x::l=>ins lt x (l9 lt l)
noncomputable def yj:List Dat->Option (List (List Int))
 |[]=>some []
 | .tup ds::r=>(match nK ds with
  |some ns=>if ns.isEmpty then none else (yj r).map fun nss=>ns::nss
  |none=>none)
 |_=>none
noncomputable def Ga(ns:List Int):Dat:=.tup (ns.map .int)
theorem yk(lt:α->α->Bool)(x:α):∀l,(ins lt x l).Perm (x::l)
 |[]=>List.Perm.refl _
 |y::l=>by
  rw[ins];split
  ·exact((yk lt x l).cons y).trans (XD.swap x y l)
  ·exact List.Perm.refl _
theorem mQ(lt:α->α->Bool):∀l,(l9 lt l).Perm l
 |[]=>List.Perm.refl _
 |x::l=>(yk lt x _).trans ((mQ lt l).cons x)
theorem yl{lt:α->α->Bool}(tr:∀a b c,lt b a=false->lt c b=false->lt c a=false)(as:∀a b,lt a b=true->lt b a=false)(x:α):∀l:List α,l.Pairwise (fun a b=>lt b a=false)->(ins lt x l).Pairwise (fun a b=>lt b a=false)
 |[],_=>by simp[ins]
 |y::l,h=>by
  rw[ins];obtain⟨h1,h2⟩:=VM.mp h;split
  ·rename_i hl;refine VM.mpr ⟨fun z hz=>?_,yl tr as x l h2⟩;rcases Ui.mp ((yk lt x l).mem_iff.mp hz) with rfl | hz
   ·exact as _ _ hl
   ·exact h1 z hz
  ·rename_i hl;have hl':lt y x=false:=by simpa using hl
   refine VM.mpr ⟨fun z hz=>?_,h⟩;rcases Ui.mp hz with rfl | hz
   ·exact hl'
   ·exact tr _ _ _ hl' (h1 z hz)
theorem mR{lt:α->α->Bool}(tr:∀a b c,lt b a=false->lt c b=false->lt c a=false)(as:∀a b,lt a b=true->lt b a=false):∀l:List α,(l9 lt l).Pairwise (fun a b=>lt b a=false)
 |[]=>XH.nil
 |x::l=>yl tr as x _ (mR tr as l)
theorem n_{lt:α->α->Bool}(tot:∀a b,lt a b=false->lt b a=false->a=b):∀{l m:List α},l.Perm m->l.Pairwise (fun a b=>lt b a=false)->m.Pairwise (fun a b=>lt b a=false)->l=m
 |[],m,p,_,_=>(List.nil_perm.mp p).symm
 |x::l,[],p,_,_=>by have:=p.length_eq;simp at this
 |x::l,y::m,p,h1,h2=>by
  obtain⟨a1,a2⟩:=VM.mp h1;obtain⟨b1,b2⟩:=VM.mp h2;have e:x=y:=by
   rcases Ui.mp (p.mem_iff.mp Uj) with hx | hx
   ·exact hx
   ·rcases Ui.mp (p.mem_iff.mpr (Uj (a:=y) (l:=m))) with hy | hy
    ·exact hy.symm
    ·exact tot x y (b1 x hx) (a1 y hy)
  subst e;rw[n_ tot (XD.cons_inv p) a2 b2]
end
end Dm
namespace Br
open PySem PySem.Spec PyProof.Rows L2
noncomputable def lexOrd:KeyOrd:=⟨List Int,Dm.lx,Dm.qo,Dm.n8,fun a b c h=>Dm.Dq a b c h,Dm.n9⟩
noncomputable def tS:List V->Option (List Int)
 |[]=>some []
 |.int i::r=>(tS r).map fun ns=>i::ns
 |_=>none
theorem kM:∀ns:List Int,tS (ns.map V.int)=some ns
 |[]=>rfl
 |n::ns=>by rw[Uc,tS,kM ns];rfl
theorem BZ:∀{xs:List V} {ns:List Int},tS xs=some ns->xs=ns.map V.int
 |[],ns,h=>by cases h;rfl
 |.int i::r,ns,h=>by
  unfold tS at h;cases e:tS r with
  |none=>rw[e]at h;cases h
  |some ms=>rw[e]at h;cases h;rw[BZ e];rfl
 |.non::_,_,h=>by cases h
 |.bl _::_,_,h=>by cases h
 |.str _::_,_,h=>by cases h
 |.ref _::_,_,h=>by cases h
 |.byt _::_,_,h=>by cases h
 |.flt _::_,_,h=>by cases h
 |.ty _::_,_,h=>by cases h
noncomputable def zM(H:Hp):Value->Option (List Int)
 | .ref a=>(match H a with
  |some (.tup xs)=>tS xs
  |_=>none)
 |_=>none
noncomputable def AX(H:Hp):KeyKind:={ lexOrd with keyOf:=zM H,dflt:=([]:List Int) }
section
variable{prog:Program}{w:World}{A:Around}{E:Value->Shared->Prop}{s:Shared}
theorem B0{R1:Bool}{Q:Bool->Shared->Prop}:∀{xs ys:List Value} {ks ms:List Int} (i:Nat),IntsAre xs ks->IntsAre ys ms->R1=decide (ks.length<ms.length)->Q (Dm.lx ks ms) s ->
  PySem.W.KatLex prog w A true R1 Q (xs.zip ys) i s
 |_,_,_,_,i,.nil,.nil,hf,q=>by subst hf;exact q
 |_,_,_,_,i,.nil,.cons m u h',hf,q=>by subst hf;exact q
 |_,_,_,_,i,.cons k t h,.nil,hf,q=>by subst hf;exact q
 |_,_,_,_,i,.cons k t h,.cons m u h',hf,q=>by
  rw[WO];refine PySem.W.kat_cons (wpAny_eqBool_int ?_);rw[Dm.lx]at q;by_cases e:k=m
  ·rw[if_pos e]at q;have:(k == m)=true:=by simpa using e
   rw[this];refine PySem.W.kat_yes (B0 (i+1) h h' ?_ q);rw[hf];simp
  ·rw[if_neg e]at q;have:(k == m)=false:=by simpa using e
   rw[this];refine PySem.W.kat_no ?_;cases hb:(true&&i == 0)
   ·exact PySem.W.kat_one _ _ (lt_int q)
   ·exact oneLt_int q
theorem Gb{κ:KeyKind}{kd:SortKind}(h:∀(x y:Keyed) (a b:κ.α) {Q:Bool->Shared->Prop} {E:Value->Shared->Prop},κ.keyOf x.1=some a->κ.keyOf y.1=some b->Q (κ.blt a b) s->wpAny (model prog w) A (keyLt' kd x.1 y.1) Q E s):Ts.mJ (model prog w) A E s κ kd:=fun x y a b st Q ha hb hk q=>by rw[lt'_eq];refine wpS_bind (wpS_get ?_);rw[hk];refine wpS_bind (wpS_lift (wpAny_attempt (h x y a b ha hb ⟨rfl,?_⟩)));exact wpS_pure q
end
noncomputable def bk:Value->V
 |.ref a=>.ref a
 |.int n _=>.int n
 |_=>.non
section
variable{X:Cx}
theorem u5{vs:List Value}{q:Keyed}(h:q∈(pairsOf vs).toList):q.1=q.2/\q.1∈vs:=by
 rw[pairsOf_toList]at h;have hh:∀(l:List Value) (q:Keyed),q∈l.zip l->q.1=q.2/\q.1∈l:=fun l=>by
  induction l with
  |nil=>intro q h;cases h
  |cons v l ih=>
   intro q h;rw[WO]at h;rcases Ui.mp h with rfl | h
   ·exact⟨rfl,Uj⟩
   ·exact⟨(ih q h).1,Ue _ (ih q h).2⟩
 exact hh _ q h
theorem Gd(vs:List Value):(pairsOf vs).toList.map (·.2)=vs:=by
 rw[pairsOf_toList];have hh:∀l:List Value,(l.zip l).map (·.2)=l:=fun l=>by
  induction l with
  |nil=>rfl
  |cons v l ih=>rw[WO,Uc,ih]
 exact hh vs
theorem OV{κ:KeyKind}{vs:List Value}{st':SortSt}(hk:KeysOf κ (pairsOf vs))(hp:(arrOf st').Perm (pairsOf vs))(hs:Ts.Seg κ (arrOf st') 0 (pairsOf vs).size) :
  ∃out:List Value,((arrOf st').map (·.2))=out.toArray/\out.Perm vs/\out.Pairwise (fun u v=>∀a b,κ.keyOf u=some a->κ.keyOf v=some b->κ.blt b a=false):=by
 have pm:=V2.mp hp;refine⟨(arrOf st').toList.map (·.2),Array.toList_inj.mp (by rw[Array.toList_map]),?_,?_⟩
 ·have:=pm.map (·.2)
  rwa [Gd]at this
 ·have ka:KeysOf κ (arrOf st'):=fun q hq=>hk q (pm.mem_iff.mp hq);have hz:(arrOf st').size=(pairsOf vs).size:=hp.size_eq;rw[<- hz]at hs;have:=(Ts.l8 ka (i:=0) (j:=(arrOf st').size) (Nat.le_refl _)).mp hs;rw[Ts.mL,List.drop_zero]at this;rw[V6];refine WQ ?_ this;intro x y hx hy hle a b ha hb;have e1:=(u5 (pm.mem_iff.mp hx)).1;have e2:=(u5 (pm.mem_iff.mp hy)).1;have hle':κ.blt (Ts.kp κ y) (Ts.kp κ x)=false:=hle;unfold Ts.kp at hle';rw[e1,e2,ha,hb]at hle';exact hle'
end
end Br
namespace Dm
noncomputable def isN:Dat->Bool
 |.non=>true
 |_=>false
noncomputable def Ge:Dat->Dat->Option RV
 |d,.non=>vB (isN d)
 |_,_=>none
noncomputable def jd(bad:List Dat->Bool)(fs:List FE)(ρ:Env):Option Env:=match eAs fs ρ with
 |none=>none
 |some (xs,ρ1)=>match pks ρ1 xs with
  |none=>none
  |some ds=>if bad ds then some ρ1 else none
noncomputable def rIf(t:FT)(R S:Env->Option Env)(ρ:Env):Option Env:=match t ρ with
 |none=>none
 |some (true,ρ1)=>R ρ1
 |some (false,ρ1)=>S ρ1
noncomputable def Lw(ρ:Env):Option Env:=some ρ
noncomputable def rNo(_:Env):Option Env:=none
noncomputable def fnX(n m:Nat)(R:Env->Option Env)(ds:List Dat):Bool:=decide (ds.length=n)&&(R (ds.map .sh++fj m .un)).isSome
noncomputable def B3(C:Nat)(b:Bool):Dat->Option RV
 |.exc C'=>if C'=C then vB b else none
 |.cz C' _=>if C'=C then vB b else none
 |_=>none
end Dm
namespace Br
open PySem PySem.Spec PyProof.Rows L2
theorem Af{H0:Hp}:∀{zs:List V} (ks:V->List Int),(∀z∈zs,∃a:Addr,z=.ref a/\H0 a=some (.tup ((ks z).map V.int)))->bz H0 zs ((zs.map ks).map Dm.Ga)
 |[],ks,_=>.nil
 |z::zs,ks,h=>by
  obtain⟨a,rfl,e⟩:=h z Uj;refine .cons (.tup e ?_) (Af ks fun y hy=>h y (Ue _ hy));have:∀ns:List Int,bz H0 (ns.map V.int) (ns.map Dat.int):=fun ns=>by
   induction ns with
   |nil=>exact .nil
   |cons n ns ih=>exact .cons (.int n) ih
  exact this _
section
variable{X:Cx}{a b c e:Expr}{f fa fb:FE}{fs:List FE}{p pos:Pos}
def Rk(neg:Bool):R2:=fun x y H Q=>y=.non/\Q (.bl (if neg then !decide (x=V.non) else decide (x=V.non))) H
theorem Ly{x:V}{v:Value}(r:RelV x v):(v == Value.none)=decide (x=V.non):=by
 cases x with
 |non=>cases r;rfl
 |bl b=>cases r;rfl
 |int i=>obtain⟨t,rfl⟩:=r;rfl
 |str z=>obtain⟨t,rfl⟩:=r;rfl
 |byt z=>obtain⟨t,rfl⟩:=r;rfl
 |flt z=>obtain⟨t,rfl⟩:=r;rfl
 |ref z=>cases r;rfl
 |ty z=>cases r;rfl
theorem OW:OpR X (compareOp .Is) (Rk false):=by intro Ju s σ H x y v u Q I rx ry h;obtain⟨rfl,q⟩:=h;cases ry;refine is_none_gen ?_;rw[Ly rx];exact⟨.bl _,H,I,rfl,q⟩
theorem EO{H0 H:Hp}{x:V}{d:Dat}(r:xZ H0 H x d):decide (x=V.non)=Dm.isN d:=by
 rcases r with r | ⟨a,rfl,w⟩
 ·cases r<;>rfl
 ·cases d with
  |non=>exact UH w
  |_=>rfl
theorem OX:OpD (Rk false) Dm.Ge:=by
 intro H0 H x y dx dy z Q s rx ry e k;unfold Dm.Ge at e;split at e
 ·cases e;have hy:=EO ry;have:y=V.non:=of_decide_eq_true (hy.trans rfl);refine⟨this,?_⟩;rw[if_neg (by decide),EO rx];exact k _ H0 H (bA.refl s) (.bl _)
 ·cases e
theorem Rl(ha:DE X a fa)(hb:DE X b fb):DT X (.Compare a [.Is] [b] pos) (Dm.tV (Dm.e2 Dm.Ge fa fb)):=Ab OW OX ha hb (qM _)
end
end Br
namespace L2
open PySem PySem.Spec PyProof.Rows
def CXE(P:Program)(w:World)(C:Addr):CXT:=fun outer H s E e s'=>
 ∃ea a0 B H',e=.ref ea/\s'.os=s.os/\AllBare s'.gens/\Un (frs outer) [] H H' s.heap s'.heap/\HOk P w H' s'.heap/\Wv B outer ea (.ref C) a0 s'.heap /\
  (∀b o,s'.heap.get? b=some o->(s.heap.get? b).isSome=true\/(H' b).isSome=true->b∉frs outer->B.get? b=some o)/\E (.ref C) (some ea) H'
theorem bZ.there{P:Program}{w:World}{H:Hp}{h:Heap}{a:Addr}{o:HO}(x:bZ P w H h a o):∃u,h.get? a=some u:=by
 cases o with
 |lst xs=>obtain⟨_,_,_,_,e⟩:=x;exact⟨_,e⟩
 |tup xs=>obtain⟨_,_,_,ob,e,_⟩:=x;exact⟨_,e⟩
 |dK kvs=>obtain⟨_,_,_,_,o,_,_,e,_⟩:=x;exact⟨_,e⟩
 |dT kvs ts=>obtain⟨_,_,_,_,o,_,_,e,_⟩:=x;exact⟨_,e⟩
 |set S n=>obtain⟨o,_,_,_,e,_⟩:=x;exact⟨_,e⟩
 |ins C dx fs=>obtain⟨_,_,_,e,_⟩:=x;exact⟨_,e⟩
 |own y=>obtain⟨_,e⟩:=x;exact⟨_,e⟩
 |xd fs=>obtain⟨_,⟨_,_,_,e,_⟩,_⟩:=x;exact⟨_,e⟩
 |rng lo hi=>obtain⟨_,_,_,e⟩:=x;exact⟨_,e⟩
 |frz ob u=>obtain⟨e,_⟩:=x;exact⟨_,e⟩
 |tbl _ _ _=>obtain⟨_,e,_⟩:=x;exact⟨_,e⟩
 |met f y=>exact⟨_,x⟩
 |ext φ=>obtain⟨_,⟨_,e⟩,_⟩:=x;exact⟨_,e⟩
section
variable{X:Cx}{Ju:List (Addr×Obj)}{σ:St}{H:Hp}{s:Shared}{x:Str}{C:Addr}{bmB:List Value}{B newId initId:String}{np cpos pos:Pos}
theorem Gf{t:St->Hp->Prop}(hc:X.calm=true)(hg:Gl X x)(O:OwnCls x C bmB newId X.mg X.base)(FB:ExcBaseFacts B newId initId bmB)
  (hE:∀Ju σ H s h' e,Inv X Ju σ H s->t σ H->Xw s.heap h' e (.ref C) []->X.xe (.ref e) { s with heap:=h' }) (RQ:(x == ("__debug__" : Str))=false:=by decide) :
  PS X (.Raise (some (.Call (.Name x np) [] [] cpos)) none pos) (fun _ σ H=>t σ H):=by
 intro Ju s σ H D I h;obtain⟨tl,N,nm,q,bs,hdct,sn,sub,ab,col,dd,k0,k1,k2,k3,k5,mN,hC,hN,hni,T⟩:=O.obj;refine wpAny_Raise_call_subT (C:=C) (nm:=nm) (q:=q) (N:=N) (bs:=bs) (bm:=tl) (hdct:=hdct) (sn:=sn) (sub:=sub) (ab:=ab) (col:=col) (dd:=dd) (k0:=k0) (k1:=k1) (k2:=k2) (k3:=k3) (k5:=k5)
  FB (mN:=mN) (T.hasType FB.hasBase) (I.ok.hd hc) rfl hni (g8 I hg O.bound ⟨rfl,?_⟩ RQ)
 exact evalArgs_empty ⟨rfl,U6 _,I.bk _ _ hC,hN.keeps I.bk,T.keeps I.bk,fun h' e hm=>hE Ju σ H s h' e I h hm⟩
theorem Inv.out(I:Inv X Ju σ H s){h'' Bh:Heap}(hx:X.ex=[])(hB:∀b o,s.heap.get? b=some o->b∉frs X.stack->(X.s₀.heap.get? b).isSome=true\/(H b).isSome=true->Bh.get? b=some o)(k1:Bh.StaysIn h'')
  (sl:s.heap.UpToSlots h''):Un X.fs [] X.H₀ H X.s₀.heap h''/\HOk X.prog X.w H h'' /\
   (∀b o,h''.get? b=some o->(X.s₀.heap.get? b).isSome=true\/(H b).isSome=true->b∉X.fs->Bh.get? b=some o):=by
 have nx:∀b:Addr,b∉X.ex:=fun b z=>by rw[hx]at z;cases z
 have neL:∀b o,X.s₀.heap.get? b=some o->b≠X.env.locals:=fun b o e=>UM (UJ (Uh e) I.ok.above);have nst:∀b o,X.s₀.heap.get? b=some o->b∉X.fs->b∉frs X.stack:=fun b o e hb z=>(Ui.mp (I.xV b z)).elim (neL b o e) hb;have frame:∀b,b∈X.fs->∀o,s.heap.get? b=some o->∃sl,h''.get? b=some { o with slots:=sl }:=fun b hb o e=>by obtain⟨_,o',ho',hd⟩:=I.uU.mem hb;rw[e]at ho';cases ho';exact sl b o e hd
 have stay:∀b o,b∉frs X.stack->(X.s₀.heap.get? b).isSome=true\/(H b).isSome=true->s.heap.get? b=some o->h''.get? b=some o:=fun b o hb hh e=>k1 b o (hB b o e hb hh);have tr:∀b u,H b=some u->b∉frs X.stack:=fun b u e z=>by rw[I.AD b z]at e;cases e
 refine⟨⟨fun b o e n hb _=>?_,fun b o e n hb _=>?_,fun b o e n _=>I.base.free b o e n (nx b),fun b o e _=>?_,I.base.tups,I.base.uT,I.base.wH⟩,fun b u e=>?_,fun b o e hh hb=>?_⟩
 ·exact stay b o (nst b o e hb) (.inl (by rw[e];rfl)) (I.base.keep b o e n hb (nx b))
 ·obtain⟨s1,e1⟩:=I.base.slot b o e n hb (nx b);obtain⟨s2,e2⟩:=frame b hb _ e1;exact⟨s2,e2⟩
 ·obtain⟨o1,e1⟩:=I.base.there b o e (nx b);by_cases hb:b∈X.fs
  ·obtain⟨s2,e2⟩:=frame b hb _ e1;exact⟨_,e2⟩
  ·exact⟨o1,stay b o1 (nst b o e hb) (.inl (by rw[e];rfl)) e1⟩
 ·refine(I.hok b u e).stay (fun c v hc q=>?_) (fun _ q=>q) (fun _ _ _ q=>q) fun _ _ q=>q;rcases hc with rfl | hc
  ·exact stay c v (tr c u e) (.inr (by rw[e];rfl)) q
  ·exact stay c v (tr c _ hc) (.inr (by rw[hc];rfl)) q
 ·have:∃o1,s.heap.get? b=some o1:=by
   rcases hh with hh | hh
   ·obtain⟨o0,e0⟩:=UN.mp hh;exact I.base.there b o0 e0 (nx b)
   ·obtain⟨u,e0⟩:=UN.mp hh;exact(I.hok b u e0).there
  obtain⟨o1,e1⟩:=this;have hs:b∉frs X.stack:=by
   rcases hh with hh | hh
   ·obtain⟨o0,e0⟩:=UN.mp hh;exact nst b o0 e0 hb
   ·obtain⟨u,e0⟩:=UN.mp hh;exact tr b u e0
  have e2:=stay b o1 hs hh e1;rw[e]at e2;cases e2;exact hB b o e1 hs hh
end
section
variable{P:Program}{w:World}{K:gc}{mg:Str->Option Value}{base:Heap}{N:List Str}{qual:Str}{scope:Scope}{f:Addr}{cd:Value}{A:Around}{outer:List Env}{s₀:Shared}{H₀:Hp}{E:XK}{C:Addr}
 {Ju:List (Addr×Obj)} {σ:St} {H:Hp} {s:Shared}
theorem Lz{h h' h'':Heap}(k:∀b o,h.get? b=some o->h'.get? b=some o)(x:h'.UpToSlots h''):h.UpToSlots h'':=(Heap.UpToSlots.of_keeps k).trans x
theorem LA(I:Inv (dD (CXE P w C) P w K mg base N qual scope f cd A outer s₀ H₀ E) Ju σ H s){h':Heap}{e:Addr}(hx:Xw s.heap h' e (.ref C) [])(hE:E (.ref C) (some e) H) :
  (dD (CXE P w C) P w K mg base N qual scope f cd A outer s₀ H₀ E).xe (.ref e) { s with heap:=h' }:=by
 have hin:∀env∈(dD (CXE P w C) P w K mg base N qual scope f cd A outer s₀ H₀ E).stack,∀b,env.frame=some b->b∈frs (dD (CXE P w C) P w K mg base N qual scope f cd A outer s₀ H₀ E).stack:=fun env he b hb=>VY.mpr ⟨env,he,hb⟩;show wpAny (model P w) _ (leaving _ (.ref e)) _ _ _;refine wpAny_leaves_madeW (base:=Xh s.heap (frs (dD (CXE P w C) P w K mg base N qual scope f cd A outer s₀ H₀ E).stack)) (h:=s.heap) (L:=s₀.heap.objs.size) I.ok.frames rfl (fun b o q=>XA _ q) (PySem.W.funFrames_hide I.stack hin) hx fun h'' t fl tup bt sl=>?_;obtain⟨u1,u2,u3⟩:=I.out (h'':=h'') (Bh:=Xh s.heap (frs (dD (CXE P w C) P w K mg base N qual scope f cd A outer s₀ H₀ E).stack)) rfl (fun b o q hb _=>Xq _ q hb) fl.1 (Lz hx.keeps sl);exact⟨e,.ref t,_,H,rfl,I.os,I.bare,u1,u2,fl,u3,hE⟩
theorem Rm:Passes (CXE P w C) (dD (CXE P w C) P w K mg base N qual scope f cd A outer s₀ H₀ E) E:=by
 intro Ju σ H s e s' I hq;obtain⟨ea,a0,Bh,H',rfl,os,bare,un,hok,fl,hB,hE⟩:=hq;obtain⟨hh,g,d,t,os'⟩:=s';obtain rfl:os'=s.os:=os;have J:=I.call (h':=hh) (g':=g) (d':=d) (t':=t) (ch:=[]) un hok bare (fun b z=>absurd z (by simp));show wpAny (model P w) _ (leaving _ (.ref ea)) _ _ _;refine wpAny_leaves_onW (base:=Bh) (L:=s₀.heap.objs.size) I.ok.frames rfl fl fun h'' Iv sl=>?_;have neL:∀b o,s₀.heap.get? b=some o->∃o1,s.heap.get? b=some o1:=fun b o e=>I.base.there b o e (fun z=>nomatch z);obtain ⟨u1,u2,u3⟩:=J.out (h'':=h'') (Bh:=Bh) rfl (fun b o q hb hh=>hB b o q (hh.imp (fun z=>by obtain⟨o0,e0⟩:=UN.mp z;obtain⟨o1,e1⟩:=neL b o0 e0;rw[e1];rfl) id) hb) Iv.1 sl
 exact⟨ea,a0,Bh,H',rfl,J.os,bare,u1,u2,Iv,u3,hE⟩
end
section
variable{X:Cx}{st:Stmt}{L8:List Stmt}{t:TS}
noncomputable def DF:Ends:={ nx:=fun _ _=>False,rt:=fun _ _=>False,bk:=fun _ _=>False,ct:=fun _ _=>False }
theorem B4(h1:PS X st t):PSs X (st::L8) (fun _ σ H=>t DF σ H):=by
 intro Ju s σ H D I h;refine wpAny_execs_cons (thn (h1 Ju s σ H DF I h) fun f s1 q=>?_);cases f with
 |next=>obtain⟨_,_,_,q⟩:=q;exact UH q
 |ret v=>obtain⟨_,_,_,_,_,q⟩:=q;exact UH q
 |brk=>obtain⟨_,_,_,q⟩:=q;exact UH q
 |cont=>obtain⟨_,_,_,q⟩:=q;exact UH q
end
end L2
namespace Br
open PySem PySem.Spec PyProof.Rows L2
def ER(C:Addr)(X:Cx)(E:L2.St->XK):Prop:=∀(Ju:List (Addr×Obj)) (σ:L2.St) (H:Hp) (s:Shared) (e:Value) (s':Shared),Inv X Ju σ H s->CXE X.prog X.w C X.stack H s (E σ) e s'->X.xe e s'
def tX(C:Addr)(E:L2.St->XK)(R:Dm.Env->Option Dm.Env)(σ:L2.St)(H:Hp):Prop:=∃H0 ρ ρ',aW H0 H σ ρ/\R ρ=some ρ'/\∀a H0' H',ESt σ ρ H0 H ρ' H0' H'->E σ (.ref C) (some a) H'
def spX(C:Addr)(bad:List Dat->Bool):Sp:=fun vs H _ E=>∃H0 ds,bg H0 H/\bz H0 vs ds/\bad ds=true/\∀a H0' H',bA H0 H H0' H'->E (.ref C) (some a) H'
noncomputable abbrev XE(X:Cx)(C:Addr)(E:L2.St->XK)(e:Expr)(R:Dm.Env->Option Dm.Env):Prop:=PE X e (fun σ H _=>tX C E R σ H)
noncomputable abbrev XS(X:Cx)(C:Addr)(E:L2.St->XK)(st:Stmt)(R:Dm.Env->Option Dm.Env):Prop:=PS X st (fun _ σ H=>tX C E R σ H)
section
variable{X:Cx}{C:Addr}{E:L2.St->XK}{k:Nat}{F:Addr}{fd:FuncData}{ps:List Str}{x:Str}{p pos:Pos}{e:Expr}{es:List Expr}{fs:List FE}{bad:List Dat->Bool}{R S:Dm.Env->Option Dm.Env}
theorem LB{Ju:List (Addr×Obj)}{σ:L2.St}{H:Hp}{s:Shared}{Q:VK}{us:List Value}{vs:List V}(G:cF X.prog X.w X.K X.mg X.base (CXE X.prog X.w C) k F fd ps (spX C bad))(hr:cS k X.A)(hb:Binds X.K fd ps [])(hx:ER C X E)
  (I:Inv X Ju σ H s) (r:Vals vs us) (h:spX C bad vs H Q (E σ)):wpAny (model X.prog X.w) X.A (call (.ref F) us) (EP X Ju σ Q) X.xe s:=by
 have hl:(us++[]).length=ps.length:=by rw[U3,<- r.length];exact G.len _ _ _ _ h
 have hb':=hb s us I.kIn hl;rw[U3]at hb';refine wpAny_call (codeAny_mono (G.run X.A X.stack s H ⟨us,[]⟩ us vs Q (E σ) hr I.Hz hb' r h) fun r s' hq=>?_);cases r with
 |error e=>exact hx Ju σ H s e s' I hq
 |ok fl=>
  cases fl with
  |ret u=>exact I.after hq
  |next=>exact UH hq
  |brk=>exact UH hq
  |cont=>exact UH hq
theorem LC{σ:L2.St}{H:Hp}(h:tX C E (Dm.jd bad fs) σ H)(Q:VK):tDA fs σ H fun vs H1=>spX C bad vs H1 Q (E σ):=by
 obtain⟨H0,ρ,ρ',st,hR,k⟩:=h;unfold Dm.jd at hR;split at hR
 ·cases hR
 rename_i xs ρ1 e1;split at hR
 ·cases hR
 rename_i ds p1;split at hR
 case isFalse=>cases hR
 rename_i hbad;cases hR;refine⟨H0,ρ,xs,ρ',st,e1,fun vs H1 Hb t1 r1=>?_⟩;obtain⟨ρ2,e2⟩:=mG p1;obtain⟨H2,t2,b2,r2⟩:=takes t1 (bg.refl _) r1 e2;exact⟨H2,ds,t2.st.same,r2,hbad,fun a H0' H' g=>k a H1 H' (t1.trans (.grow t1.st ⟨bg.refl _,g.s1,fun a o q=>.inr q,t1.st.same.trans g.s1⟩))⟩
theorem x_call(G:cF X.prog X.w X.K X.mg X.base (CXE X.prog X.w C) k F fd ps (spX C bad))(hr:cS k X.A)(hg:Gl X x)(hm:X.mg x=some (.ref F))(hk:Ut X.K (.ref F)=true)(hb:Binds X.K fd ps [])(hx:ER C X E)
  (ha:DA X (e::es) fs) (RQ:(x == ("__debug__" : Str))=false:=by decide) (he:starEach (e::es) X.env=(false,eval e X.env)::starEach es X.env:=by rfl) (RN:(backTo pos (starEach es X.env)).any (·.1)=false:=by rfl) :
  XE X C E (.Call (.Name x p) (e::es) [] pos) (Dm.jd bad fs):=by
 intro Ju s σ H Q I h;refine wpAny_Call_Name_kw (g8 I hg hm ?_ RQ);refine Wh (h₀:=X.base) I.ok.mod.kin hk (thn (ha pos Ju s σ H _ I (LC h Q)) fun us s1 ⟨vs,H1,I1,r,q⟩=>⟨I1.kIn,?_⟩) he RN;exact LB G hr hb hx I1 r q
theorem Dr(h:XE X C E e R)(hs:swapsWith e none pos.line X.env=pure false:=by rfl):XS X C E (.Expr e pos) R:=PS.weak (tF h hs) fun _ _ _ q=>q
end
section
variable{P:Program}{w:World}{K:gc}{mg:Str->Option Value}{base:Heap}{N:List Str}{qual:Str}{scope:Scope}{f:Addr}{cd:Value}{A:Around}{outer:List Env}{s₀:Shared}{H₀:Hp}{E:XK}{C:Addr}
theorem Rn:ER C (dD (CXE P w C) P w K mg base N qual scope f cd A outer s₀ H₀ E) (fun _=>E):=fun Ju σ H s e s' I q=>Rm Ju σ H s e s' I q
theorem x_raise{x:Str}{bmB:List Value}{B newId initId:String}{np cpos pos:Pos}(O:OwnCls x C bmB newId mg base)(FB:ExcBaseFacts B newId initId bmB)(hg:Gl (dD (CXE P w C) P w K mg base N qual scope f cd A outer s₀ H₀ E) x)(RQ:(x == ("__debug__" : Str))=false:=by decide) :
  XS (dD (CXE P w C) P w K mg base N qual scope f cd A outer s₀ H₀ E) C (fun _=>E) (.Raise (some (.Call (.Name x np) [] [] cpos)) none pos) Dm.Lw:=
 Gf rfl hg O FB (fun Ju σ H s h' e I ⟨H0,ρ,ρ',st,hR,k⟩ hm=>LA I hm (k e _ _ (by cases hR;exact ESt.refl st))) RQ
end
theorem ES{C:Addr}{n m:Nat}{R:Dm.Env->Option Dm.Env}{vs:List V}{H:Hp}{Q:VK}{E:XK}(h:spX C (Dm.fnX n m R) vs H Q E):vs.length=n:=by obtain⟨H0,ds,s,rs,e,k⟩:=h;unfold Dm.fnX at e;rw[U9,decide_eq_true_eq]at e;rw[rs.length];exact e.1
theorem B5{N:List Str}{n m:Nat}{vs:List V}{H0 H:Hp}{ds:List Dat}(hm:N.length=n+m)(hvn:vs.length=n)(s:bg H0 H)(rs:bz H0 vs ds) :
  aW H0 H (start N vs) (ds.map Dm.Cell.sh++fj m .un)/\∀a,¬aV (start N vs) (ds.map Dm.Cell.sh++fj m .un) a:=by
 have hl:=rs.length;refine ⟨?_,fun a ⟨i,d,h1,_⟩=>by
  by_cases hi:i<ds.length
  ·rw[Um (by simpa using hi),UX]at h1;cases q:ds[i]? with
   |none=>rw[q]at h1;cases h1
   |some y=>rw[q]at h1;cases h1
  ·rw[UI (by simpa using hi),Vh]at h1;split at h1<;>cases h1⟩
 refine⟨s,?_,fun i d h=>?_,fun i d h=>?_,fun i j d e a h1 h2 _ _=>?_⟩
 ·unfold L2.start;simp only[UO,Ud,Wq]
  lia
 ·have hi:i<ds.length:=by
   by_cases hi:i<ds.length
   ·exact hi
   ·rw[UI (by simpa using hi),Vh]at h;split at h<;>cases h
  rw[Um (by simpa using hi),UX]at h;cases q:ds[i]? with
  |none=>rw[q]at h;cases h
  |some y=>rw[q]at h;cases h;obtain⟨v,hv,r⟩:=rs.get q;refine⟨v,?_,r⟩;unfold L2.start;rw[Um (by simpa [hl] using hi),UX,hv];rfl
 ·by_cases hi:i<ds.length
  ·rw[Um (by simpa using hi),UX]at h;cases q:ds[i]? with
   |none=>rw[q]at h;cases h
   |some y=>rw[q]at h;cases h
  ·rw[UI (by simpa using hi),Vh]at h;split at h<;>cases h
 ·by_cases hi:i<ds.length
  ·rw[Um (by simpa using hi),UX]at h1;cases q:ds[i]? with
   |none=>rw[q]at h1;cases h1
   |some y=>rw[q]at h1;cases h1
  ·rw[UI (by simpa using hi),Vh]at h1;split at h1<;>cases h1
end Br
namespace PySem.W
open PySem PySem.Spec PySem.Calls PyProof.Rows
structure mS(K:Frag)(C:Addr):Prop where
 ga:findIn K (.ref C) "__getattribute__" = some (some (.builtin "BaseException.__getattribute__"))
 gn:findIn K (.ref C) "__getattr__" = some none
 cl:findIn K (.ref C) "__class__" = some (some (.builtin "object.__class__"))
 mB:mroIn K C (.type "BaseException")=some true
 mO:mroIn K C (.type "object")=some true
def ym(x C:Addr)(h:Heap):Prop:=∃ox,h.get? x=some ox/\ox.cls=.ref C
theorem qp{x C:Addr}{M:Model}{h:Heap}(p:ym x C h):Looks M h (typeOf (.ref x)) (.ref C):=by obtain⟨o,h1,h2⟩:=p;exact h2▸(Xx h1).andThen .now
section
variable{prog:Program}{w:World}{A:Around}{K:Frag}{x C:Addr}{s:Shared}{R:Result->Shared->Prop}
theorem Dt{tp:Value}(X:K.In s.heap)(I:ym x C s.heap)(hm:mroIn K C (.type "object")=some true)
  (h:R (.ok (.ret (.ref C))) s):codeAny (model prog w) A (.call (.builtin "getset_descriptor.__get__") ⟨[.builtin "object.__class__",.ref x,tp],[]⟩) R s:=by
 obtain⟨hh,g,dr,t,os⟩:=s;have L0:=qp (M:=model prog w) I;have L1:=looks_mroIn (M:=model prog w) X hm;refine codeAny_call_builtin KF.slot_gs.plain KF.entry_gs (KF.slot_gs.check _ _ _ _ _ _ _ _ KF.type_class (KF.args_gs _ _ _) ?_);unfold Builtin.«getset_descriptor.__get__» Builtin.Getset_descriptor.descrGet;rw[dga_obj];refine wpAny_bind (wpAny_pure ?_);unfold Builtin.Getset_descriptor.descrGetter Builtin.Getset_descriptor.descrCheckInstance Builtin.Getset_descriptor.descrNameAndClass isInstance;simp only[KF.owner_class]
 repeat lk
 refine⟨WS _ (by decide +kernel),codeAny_builtin KF.entry_class ?_⟩;unfold Builtin.«object.__class__» shownTypeOf
 repeat lk
 exact h
end
section
variable{prog:Program}{w:World}{A:Around}{E:Value->Shared->Prop}{K:Frag}{x C:Addr}{ox:Obj}{h:Heap}{g:Array GenState}{d:Drawn}{t:Nat}{os:OsState}
theorem B6{M:Model}{nameV:Value}{Q:Unit->Shared->Prop}(Z:mS K C)(X:K.In h)(I:ym x C h)(hq:Q () ⟨h,g,d,t,os⟩):wpAny M A (checkBuiltinCall "BaseException.__getattribute__" ⟨[.ref x,nameV],[]⟩) Q E ⟨h,g,d,t,os⟩:=by
 have hk:builtinKind "BaseException.__getattribute__" = some .slot:=by decide +kernel
 have hsplit:splitId "BaseException.__getattribute__" = some ("BaseException","__getattribute__"):=by decide +kernel
 have L0:=qp (M:=M) I;have L1:=looks_mroIn (M:=M) X Z.mB;have LI:Looks M h (isInstance (.ref x) (.type "BaseException")) true:=L0.andThen L1;have ha:=PySem.F.args_bexc_ga (.ref x) nameV;simp only[checkBuiltinCall,hk,hsplit];refine wpAny_bind (LI.at ?_)
 repeat (first | assumption | wp_step)
theorem Iw{tk:Tok}{Q:Fin->Shared->Prop}(Z:mS K C)(X:K.In h)(I:ym x C h)(hq:Q (.done (.ret (.ref C))) ⟨h,g,d,t,os⟩) :
  wpAny (model prog w) A (Builtin.«object.__getattribute__» ⟨[.ref x,.str "__class__" tk],[]⟩) Q E ⟨h,g,d,t,os⟩:=by
 have hT5:(⟨h,g,d,t,os⟩:Shared).TypeIs (.builtin "object.__class__") "getset_descriptor" := F.typeOf_object_class;have f5:=F.typeOf_object_class;have f6:=F.slot_gs_get.lookup;have f7:=F.slot_gs_set.lookup;have L0:=qp (M:=model prog w) I;have L1:=looks_findIn (M:=model prog w) X Z.cl
 repeat (any_goals (first | assumption | with_reducible refine L0.at ?_ | with_reducible refine L1.at ?_ | wp_step))
 refine Dt X I Z.mO ?_
 repeat (any_goals (first | assumption | wp_step))
theorem LD{tk:Tok}{R:Result->Shared->Prop}(Z:mS K C)(X:K.In h)(I:ym x C h)(hq:R (.ok (.ret (.ref C))) ⟨h,g,d,t,os⟩) :
  codeAny (model prog w) A (.call (.builtin "BaseException.__getattribute__") ⟨[.ref x,.str "__class__" tk],[]⟩) R ⟨h,g,d,t,os⟩:=
 codeAny_call_builtin V3.ga.plain PySem.F.entry_bexc_ga (B6 Z X I (Iw Z X I hq))
theorem Ro{tk:Tok}{Q:Value->Shared->Prop}(Z:mS K C)(X:K.In h)(I:ym x C h)(hq:Q (.ref C) ⟨h,g,d,t,os⟩) :
  wpAny (model prog w) A (getAttrBy (.ref x) (.str "__class__" tk) false) Q E ⟨h,g,d,t,os⟩:=by
 have f3:=V3.ga.bind (.ref x);have hx2:(VH "BaseException.__getattribute__" == VH "object.__getattribute__")=false:=by decide +kernel
 have hx1:(onTheHeap (UU C)&&VH "BaseException.__getattribute__" == VH "object.__getattribute__")=false:=by rw[hx2];rfl
 have L0:=qp (M:=model prog w) I;have L1:=looks_findIn (M:=model prog w) X Z.ga;have L2:=looks_findIn (M:=model prog w) X Z.gn
 repeat (any_goals (first | assumption | with_reducible refine L0.at ?_ | with_reducible refine L1.at ?_ | with_reducible refine L2.at ?_ | wp_step))
 refine LD Z X I ?_
 repeat (any_goals (first | assumption | wp_step))
theorem LF{s:Shared}{Q:Option Value->Shared->Prop}(Z:mS K C)(X:K.In s.heap)(I:ym x C s.heap)(hq:Q (some (.ref C)) { s with toks:=s.toks+1 }):wpAny (model prog w) A (getAttr? (.ref x) "__class__") Q E s:=by
 obtain⟨h,g,d,t,os⟩:=s;unfold getAttr? getAttrBy?
 repeat (any_goals (first | assumption | with_reducible apply Ro Z X I | wp_step))
theorem Iz(Z:mS K C)(hc:(clsIn K C).isSome=true):KitX K (.ref x) (.ref C) (ym x C) where
 ty:=fun _ _ _ I=>qp I
 it:=fun _ _ X _=>by
  unfold clsIn at hc;split at hc
  ·rename_i c' d' cd' sl' ho;intro A' Q' E' s' k q;unfold isType loadHead;exact wpAny_bind (wpAny_loadPart (k _ _ (X _ _ ho)) (wpAny_pure q))
  ·cases hc
 ne:=fun h tp dd its n sl X htp=>by
  refine Bool.eq_false_iff.mpr fun q=>?_;have e:C=tp:=UU.inj (beq_iff_eq.mp q);subst e;unfold clsIn at hc;split at hc
  ·rename_i c' d' cd' sl' ho;have z:=(X _ _ ho).symm.trans htp;cases z
  ·cases hc
 ca:=fun X I k=>LF Z X I k
end
end PySem.W
namespace PySem
theorem wm{α:Type}(p:α->Bool):∀(l:List α) (i:Nat) (x:α),l[i]?=some x->p x=false->(l.eraseIdx i).find? p=l.find? p
 |[],i,x,h,_=>by simp at h
 |y::l,0,x,h,hp=>by simp only[Ua,Option.some.injEq]at h;subst h;rw[List.eraseIdx_cons_zero,X0,hp]
 |y::l,i+1,x,h,hp=>by rw[List.eraseIdx_cons_succ,X0,X0,wm p l i x (by simpa using h) hp]
theorem zN{es:Array DictEntry}{i:Nat}{name y:Str}(hi:es.findIdx? (·.key.isStr name)=some i)(hy:y≠name):nsFind (es.eraseIdxIfInBounds i) y=nsFind es y:=by
 obtain⟨RO,hp,_⟩:=Array.findIdx?_eq_some_iff_getElem.mp hi;have hq:(es[i]).key.isStr y=false:=by
  cases hk:(es[i]).key with
  |str z t=>rw[hk]at hp;simp only[Yn,beq_iff_eq]at hp;simp only[Yn,beq_eq_false_iff_ne];intro e;exact hy (e.symm.trans hp)
  |_=>rw[hk]at hp;simp[Yn]at hp
 have h2:(es.eraseIdxIfInBounds i).toList=es.toList.eraseIdx i:=by unfold Array.eraseIdxIfInBounds;rw[dif_pos RO,Array.toList_eraseIdx]
 unfold nsFind findBy;rw[<- XC,<- XC,h2,wm _ _ i es[i] (by rw[U7,Ds RO]) hq]
section
variable{M:Model}{A:Around}{E:Value->Shared->Prop}{s:Shared}{env:Env}
theorem AY{a:Addr}{m}{name:Str}{Q:Bool->Shared->Prop}(hn:s.heap.Ns a m)
  (hQ:∀h' m',h'.Ns a m'->(∀y,y≠name->m' y=m y)->VX a s.heap h'->Q (m name).isSome { s with heap:=h' }):wpAny M A (nsDel a name) Q E s:=by
 obtain⟨o,es,ep,ho,hd,hk,hm⟩:=id hn;have hany:es.any (·.refKey)=false:=by rw[Array.any_eq_false'];intro e he;obtain⟨n,t,h⟩:=hk e he;simp[DictEntry.refKey,h]
 have hsome:(m name).isSome=es.any (·.key.isStr name):=by
  rw[<- hm name];simp only[nsFind,findBy,Option.isSome_map];rw[XZ];simp only[Array.find?_isSome,Array.any_eq_true];constructor
  ·rintro⟨x,hx,hp⟩;obtain⟨i,hi,rfl⟩:=Array.mem_iff_getElem.mp hx;exact⟨i,hi,hp⟩
  ·rintro⟨i,hi,hp⟩;exact⟨_,Array.getElem_mem hi,hp⟩
 have hhas:nsHas name o=pure (es.any (·.key.isStr name)):=by
  rw[nsHas_eq];unfold nsHasByArray;rw[hd];show (if (es.any fun x=>x.key.isStr name)=true then _ else _)=_
  generalize (es.any fun x=>x.key.isStr name)=b
  cases b<;>simp[hany]
 unfold nsDel;refine wpAny_bind (wpAny_loadPart ho ?_);rw[hhas];refine wpAny_bind (wpAny_pure ?_);rw[<- hsome];cases hmn:(m name).isSome
 ·have:=hQ s.heap m hn (fun _ _=>rfl) (.refl ..);rw[hmn]at this;exact wpAny_pure this
 ·refine wpAny_bind (wpAny_updatePart ho (wpAny_pure ?_));have key:∃m',(s.heap.update a (Obj.dropName name)).Ns a m'/\∀y,y≠name->m' y=m y:=by
   obtain⟨cl,d,dt,sl⟩:=o;subst hd;cases hi:es.findIdx? (·.key.isStr name) with
   |some i=>exact⟨nsFind (es.eraseIdxIfInBounds i),⟨_,_,ep+1,Vp _ ho (by simp only[Xm,WI,hi]<;>rfl),(by simp only[Xm,WI,hi]<;>rfl),hk.erase i,fun _=>rfl⟩,fun y hy=>by rw[zN hi hy,hm]⟩
   |none=>exact⟨nsFind es,⟨_,_,ep,Vp _ ho (by simp only[Xm,WI,hi]<;>rfl),(by simp only[Xm,WI,hi]<;>rfl),hk,fun _=>rfl⟩,fun y _=>hm y⟩
  obtain⟨m',hm',hy⟩:=key;have:=hQ _ m' hm' hy (VU ..);rw[hmn]at this;exact this
theorem wK{n:Str}{pos:Pos}{m:Str->Option Value}{Q:Unit->Shared->Prop}(hl:env.kindOf n=some .local)(hn:s.heap.Ns env.locals m)
  (hp:(env.scope.kind == .class||(env.scope.kind == .module&&env.locals != env.globals))=false)
  (h:∀h' m',h'.Ns env.locals m'->(∀y,y≠n->m' y=m y)->VX env.locals s.heap h'->Q () { s with heap:=h',toks:=s.toks+1 }) :
  wpAny M A (do bindName env n .none;unbindBehindTheSuite env n pos) Q E s:=by
 refine wpAny_bind (wpAny_bindName (wpAny_storeName_local hl hn (fun h₁ hn₁ hs₁=>?_) hp));unfold unbindBehindTheSuite;refine wpAny_onRaise ?_;unfold unbindName;refine wpAny_bind (wpAny_point (wpAny_bind ?_));unfold deleteName;simp only[hl,hp];rw[if_neg (by decide)];refine wpAny_bind (AY hn₁ fun h₂ m₂ hn₂ hy hs₂=>?_);simp only[if_true,Option.isSome_some,Up,Uu,if_false];exact wpAny_pure (wpAny_point (h h₂ m₂ hn₂ (fun y hny=>(hy y hny).trans (if_neg hny)) (hs₁.trans hs₂)))
end
end PySem
namespace PySem.W
open PySem PySem.Spec PySem.Calls PyProof.Rows
structure mT(K:Frag)(C CP:Addr):Prop where
 ty:typeIn K (.ref CP)=some (.type "type")
 cl:(clsIn K CP).isSome=true
 mB:mroIn K CP (.type "BaseException")=some true
 mP:mroIn K C (.ref CP)=some true
theorem wo{M:Model}{A:Around}{E:Value->Shared->Prop}{K:Frag}{x C CP:Addr}{h:Heap}{g:Array GenState}{d:Drawn}{t:Nat}{os:OsState}{Q:Bool->Shared->Prop}
  (Z:mT K C CP) (X:K.In h) (I:ym x C h) (hq:Q true ⟨h,g,d,t,os⟩):wpAny M A (excMatches (.ref x) (.ref CP)) Q E ⟨h,g,d,t,os⟩:=by
 have L0:=qp (M:=M) I;have L1:=looks_typeIn (M:=M) X Z.ty;have L2:=looks_mroIn (M:=M) X Z.mB;have L3:=looks_mroIn (M:=M) X Z.mP;have L4:Looks M h (isType (.ref CP)) true:=by
  have hc:=Z.cl;unfold clsIn at hc;split at hc
  ·rename_i c' d' cd' sl' ho;intro A' Q' E' s' k q;unfold isType loadHead;exact wpAny_bind (wpAny_loadPart (k _ _ (X _ _ ho)) (wpAny_pure q))
  ·cases hc
 have LT:Looks M h (isSubtype (.type "type") (.type "tuple")) false:=Xd tc_notTuple;unfold excMatches isInstance
 repeat lk
 exact hq
end PySem.W
namespace L2
open PySem PySem.Spec PyProof.Rows
section
variable{X:Cx}{Ju:List (Addr×Obj)}{σ:L2.St}{H:Hp}{s:Shared}
theorem Inv.fly(I:Inv X Ju σ H s){h'' B:Heap}{t':Nat}(hx:X.ex=[])(hB:∀b o,s.heap.get? b=some o->b∉frs X.stack->((X.s₀.heap.get? b).isSome=true\/(H b).isSome=true\/∃p∈X.pn++Ju,p.1=b)->B.get? b=some o)
  (k1:B.StaysIn h'') (sl:s.heap.UpToSlots h''):Inv X Ju σ H { s with heap:=h'',toks:=t' }:=by
 obtain⟨u1,u2,_⟩:=I.out (h'':=h'') (Bh:=B) hx (fun b o e hb hh=>hB b o e hb (hh.imp id .inl)) k1 sl;have cellK:∀c v,s.heap.IsCell c v->h''.IsCell c v:=fun c v ⟨o,ho,hd⟩=>by
  obtain⟨sl',e⟩:=sl c o ho fun vs q=>by rw[hd]at q;cases q
  exact⟨_,e,hd⟩
 refine⟨I.ok,I.os,I.bare,by rw[hx];exact u1,?_,fun x c e=>?_,I.free,I.jW,fun p hp=>?_,u2,I.len⟩
 ·obtain⟨m,hn,hl⟩:=I.loc;refine⟨m,sl.ns hn,fun i x v e1 e2 e3=>?_⟩;obtain⟨u,r,l⟩:=hl i x v e1 e2 e3;refine⟨u,r,?_⟩;rcases l with l | ⟨k,c,e,z⟩
  ·exact .inl l
  ·exact .inr ⟨k,c,e,cellK c _ z⟩
 ·obtain⟨v,z⟩:=I.cell x c e;exact⟨v,cellK c v z⟩
 ·obtain⟨e,n,ne,nf,d⟩:=I.pin p hp;exact⟨k1 _ _ (hB p.1 p.2 e (fun z=>(Ui.mp (I.xV _ z)).elim ne nf) (.inr (.inr ⟨p,hp,rfl⟩))),n,ne,nf,d⟩
theorem Inv.Ag(I:Inv X Ju σ H s){ea:Addr}{o:HO}(n:H ea=none)(hok:bZ X.prog X.w (upd H ea o) s.heap ea o)(n0:X.s₀.heap.get? ea=none)(nl:ea≠X.env.locals)(nc:∀x c,X.env.cells.lookup x=some c->c≠ea)
  (np:∀p∈X.pn++Ju,p.1≠ea):Inv X Ju σ (upd H ea o) s:=by
 have ne:∀b u,H b=some u->b≠ea:=fun b u e z=>by rw[z,n]at e;cases e
 have n1:∀b u,X.s₀.heap.get? b=some u->b≠ea:=fun b u e z=>by rw[z,n0]at e;cases e
 refine⟨I.ok,I.os,I.bare,⟨I.base.keep,I.base.slot,fun b u e q hx=>?_,I.base.there,fun b xs e=>?_,fun b u v e=>?_,fun b x1 x2 x3 e=>?_⟩,I.loc,I.cell,?_,fun x c e=>?_,fun p hp=>?_,fun b u e=>?_,I.len⟩
 ·rw[aJ (n1 b u e)];exact I.base.free b u e q hx
 ·have:=I.base.tups b xs e;rw[aJ (ne b _ this)];exact this
 ·have:=I.base.uT b u v e;rw[aJ (ne b _ this)];exact this
 ·have:=I.base.wH b _ _ _ e;rw[aJ (ne b _ this)];exact this
 ·rw[aJ (Vl nl)];exact I.free
 ·rw[aJ (nc x c e)];exact I.jW x c e
 ·obtain⟨e,q,a,b,d⟩:=I.pin p hp;exact⟨e,by rw[aJ (np p hp)];exact q,a,b,d⟩
 ·by_cases hb:b=ea
  ·subst hb;rw[aL]at e;cases e;exact hok
  ·rw[aJ hb]at e;exact(I.hok b u e).stay (fun c v _ q=>q) (fun c q=>by rw[aJ (ne c _ q)];exact q) (fun c _ _ q=>by rw[aJ (ne c _ q)];exact q) fun c xs q=>by rw[aJ (ne c _ q)];exact q
theorem name_goes{M:Model}{A:Around}{E:Value->Shared->Prop}{i:Nat}{n:Str}{pos:Pos}{Q:Unit->Shared->Prop}(I:Inv X Ju σ H s)(hN:X.N.Nodup)(hi:X.N[i]?=some n)(hk:X.env.kindOf n=some .local)
  (h:∀s',Inv X Ju (σ.set i none) H s'->Q () s'):wpAny M A (do bindName X.env n .none;unbindBehindTheSuite X.env n pos) Q E s:=by
 obtain⟨m,hn,hl⟩:=id I.loc;have hcls:(X.env.scope.kind == .class||(X.env.scope.kind == .module&&X.env.locals != X.env.globals))=false:=by rw[I.ok.kind];rfl
 have cne:=I.cne;refine wK hk hn hcls fun h' m' hn' hy hs=>?_;have low:∀b o,X.s₀.heap.get? b=some o->b≠X.env.locals:=fun b o e=>UM (UJ (Uh e) I.ok.above);refine h _ ⟨I.ok,I.os,I.bare,⟨fun b o e n hb hx=>?_,fun b o e n hb hx=>?_,I.base.free,fun b o e hx=>?_,I.base.tups,I.base.uT,I.base.wH⟩,⟨m',hn',fun j y v' e1 e2 e3=>?_⟩,fun y c e=>?_,I.free,I.jW,fun p hp=>?_,fun b u e=>?_,by simpa using I.len⟩
 ·exact(hs.2 b (low b o e)).trans (I.base.keep b o e n hb hx)
 ·obtain⟨sl,e1⟩:=I.base.slot b o e n hb hx;exact⟨sl,(hs.2 b (low b o e)).trans e1⟩
 ·obtain⟨o',e1⟩:=I.base.there b o e hx;exact⟨o',(hs.2 b (low b o e)).trans e1⟩
 ·have hj:j≠i:=fun z=>by
   subst z;by_cases RO:j<σ.length
   ·rw[U1 RO]at e2;cases e2
   ·rw[Vg (by simpa using RO)]at e2;cases e2
  rw[gV (Vl hj)]at e2;obtain⟨u',r',q⟩:=hl j y v' e1 e2 e3;refine⟨u',r',?_⟩;rcases q with⟨k,e⟩ | ⟨k,c,e,z⟩
  ·exact .inl ⟨k,by rw[hy y fun e=>hj (xW hN e1 (e▸hi))];exact e⟩
  ·obtain⟨o,ho,hd⟩:=z;exact .inr ⟨k,c,e,o,(hs.2 c (cne y c e)).trans ho,hd⟩
 ·obtain⟨v,o,ho,hd⟩:=I.cell y c e;exact⟨v,o,(hs.2 c (cne y c e)).trans ho,hd⟩
 ·obtain⟨e,q,a,b,d⟩:=I.pin p hp;exact⟨(hs.2 _ a).trans e,q,a,b,d⟩
 ·refine(I.hok b u e).stay (fun c v hc q=>(hs.2 c ?_).trans q) (fun _ q=>q) (fun _ _ _ q=>q) fun _ _ q=>q;rintro rfl;rcases hc with rfl | hc
  ·rw[I.free]at e;cases e
  ·rw[I.free]at hc;cases hc
end
end L2
namespace Br
open PySem PySem.Spec PyProof.Rows L2
section
variable{ρ:Dm.Env}{σ:L2.St}{H0 H:Hp}
theorem aW.drop(st:aW H0 H σ ρ)(i:Nat):aW H0 H (σ.set i none) (ρ.set i .un):=by
 have m:=st.mask i;have ne:∀{j:Nat} {c:Dm.Cell},(ρ.set i .un)[j]?=some c->c≠.un->j≠i:=fun {j c} e hc z=>by
  subst z;by_cases RO:j<ρ.length
  ·rw[U1 RO]at e;cases e;exact hc rfl
  ·rw[Vg (by simpa using RO)]at e;cases e
 have gs:∀{j:Nat},j≠i->(σ.set i none)[j]?=σ[j]?:=fun {j} h=>gV (Vl h);refine⟨m.same,by rw[Vv];exact m.len,fun j d e=>?_,fun j d e=>?_,fun j k d e a h1 h2 h3 h4=>?_⟩
 ·rw[gs (ne e (by simp))];exact m.sh j d e
 ·rw[gs (ne e (by simp))];exact m.ow j d e
 ·rw[gs (ne h1 (by simp))]at h3;rw[gs (ne h2 (by simp))]at h4;exact m.dis j k d e a h1 h2 h3 h4
theorem SSt.drop(st:aW H0 H σ ρ){i:Nat}(h0:i≠0):SSt σ ρ H0 H (σ.set i none) (ρ.set i .un) H0 H:=by
 refine⟨aW.drop st i,Stp.refl _ _ _,fun a ⟨j,d,h1,h2⟩=>.inl ?_,gV h0⟩;by_cases hj:i=j
 ·subst hj;by_cases RO:i<ρ.length
  ·rw[U1 RO]at h1;cases h1
  ·rw[Vg (by simpa using RO)]at h1;cases h1
 ·rw[gV hj]at h1 h2;exact⟨j,d,h1,h2⟩
noncomputable def φX(ea C:Addr):HO:=.ext fun h=>∃o,h.get? ea=some o/\o.cls=.ref C
theorem φX_ok{P:Program}{w:World}{H:Hp}{h:Heap}{ea C:Addr}{o:Obj}(e:h.get? ea=some o)(c:o.cls=.ref C):bZ P w H h ea (φX ea C):=
 ⟨⟨o,e,c⟩,⟨o,e⟩,fun _ _ ⟨o,e,c⟩ k=>⟨o,k o e,c⟩⟩
noncomputable def Cx.in'(X:Cx)(pn:List (Addr×Obj))(xe:Value->Shared->Prop):Cx:={ X with pn:=X.pn++pn,xe:=xe }
noncomputable def Cx.sub'(X:Cx)(A:Around)(xe:Value->Shared->Prop):Cx:={ X with A:=A,calm:=false,xe:=xe }
end
section
variable{X:Cx}{Ju pn:List (Addr×Obj)}{σ:L2.St}{H:Hp}{s:Shared}{xe:Value->Shared->Prop}
theorem Du(I:Inv X pn σ H s):Inv (Cx.in' X pn xe) [] σ H s:=
 ⟨⟨I.ok.1,I.ok.2,I.ok.3,I.ok.4,I.ok.5,I.ok.6,I.ok.7,I.ok.8,I.ok.9,I.ok.10,I.ok.11,I.ok.12,I.ok.13,I.ok.14,I.ok.15,I.ok.16,I.ok.17,I.ok.18⟩,I.os,I.bare,I.base,I.loc,I.cell,I.free,I.jW,fun p hp=>I.pin p (by rw[U3]at hp;exact hp),I.hok,I.len⟩
theorem kZ(I:Inv (Cx.in' X pn xe) Ju σ H s):Inv X pn σ H s:=
 ⟨⟨I.ok.1,I.ok.2,I.ok.3,I.ok.4,I.ok.5,I.ok.6,I.ok.7,I.ok.8,I.ok.9,I.ok.10,I.ok.11,I.ok.12,I.ok.13,I.ok.14,I.ok.15,I.ok.16,I.ok.17,I.ok.18⟩,I.os,I.bare,I.base,I.loc,I.cell,I.free,I.jW,fun p hp=>I.pin p (Va _ hp),I.hok,I.len⟩
theorem xP{A:Around}(hA:A.frames=X.A.frames)(I:Inv X Ju σ H s):Inv (Cx.sub' X A xe) Ju σ H s:=
 ⟨⟨I.ok.1,I.ok.2,I.ok.3,I.ok.4,I.ok.5,I.ok.6,I.ok.7,I.ok.8,(fun h=>nomatch h),hA.trans I.ok.10,I.ok.11,I.ok.12,I.ok.13,I.ok.14,I.ok.15,I.ok.16,I.ok.17,I.ok.18⟩,I.os,I.bare,I.base,I.loc,I.cell,I.free,I.jW,I.pin,I.hok,I.len⟩
theorem qq{A:Around}(ok:X.Ok)(I:Inv (Cx.sub' X A xe) Ju σ H s):Inv X Ju σ H s:=
 ⟨ok,I.os,I.bare,I.base,I.loc,I.cell,I.free,I.jW,I.pin,I.hok,I.len⟩
end
structure k6(K:gc)(C:Addr):Prop where
 get:PySem.W.mS K C
 cls:(Vt K C).isSome=true
noncomputable def φXF(ea C d:Addr):HO:=.ext fun h=>∃o,h.get? ea=some o/\o.cls=.ref C/\o.dict=some d/\∀c,o.data≠.cls c
def ExK(H:Hp)(a C:Addr):Prop:=H a=some (φX a C)\/∃d,H a=some (φXF a C d)
def Rp(K:gc)(C:Addr)(c:V)(b:Bool):List V->Hp->VK->Prop:=fun xs H Q=>∃a,xs=[.ref a,c]/\ExK H a C/\Q (.bl b) H
section
variable{X:Cx}{C:Addr}{e:Expr}{f:FE}{p p2 pos:Pos}{b:Bool}
section
variable{σ:L2.St}{tn:Str}{H:Hp}{c:V}
theorem Rq{Ju:List (Addr×Obj)}{s:Shared}{a:Addr}(I:Inv X Ju σ H s)(h:ExK H a C):PySem.W.ym a C s.heap:=by
 rcases h with h | ⟨d,h⟩
 ·exact(I.hok a _ h).1
 ·obtain⟨o,e,c,_⟩:=(I.hok a _ h).1;exact⟨o,e,c⟩
theorem B7{u2:Value}(hc:RelV c u2)(hu:∀u,RelV c u->u=u2)(Z:k6 X.K C)(k:eg X.K (.ref C) u2=some b):kH X (.builtin "isinstance") (Rp X.K C c b):=by intro Ju s σ H xs us Q I r h;obtain⟨a,rfl,ha,q⟩:=h;obtain⟨u,u3,rfl,rx,ry⟩:=vals2 r;cases rx;obtain rfl:=hu u3 ry;exact Vr (PySem.W.Iz Z.get Z.cls) I.kIn (Rq I ha) k (by intro q;cases q) fun tk=>⟨.bl b,H,I.tok tk,rfl,q⟩
theorem M9{Q:VK}(h:tD (Dm.e1 (Dm.B3 C b) f) σ H Q):tCB (Rp X.K C c b) (qI (tD f) (qI (tC c) C9)) σ H Q:=by
 obtain⟨H0,ρ,x,ρ',st,e,k⟩:=h;unfold Dm.e1 at e;split at e
 ·cases e
 rename_i x1 ρ1 e1;split at e
 ·cases e
 rename_i dx p1;cases dx with
 |exc C'=>
  unfold Dm.B3 at e;dsimp only at e;by_cases hC:C'=C
  ·subst hC;rw[if_pos rfl]at e;cases e;refine⟨H0,ρ,x1,_,st,e1,fun v H1 Hb t1 r1=>?_⟩;have rv:Rep Hb v (.exc C'):=(r1.look t1.st p1).full t1.st.same;cases rv with
   |exc q=>exact⟨_,rfl,.inl q,k _ H1 Hb t1 (Rep.bl _)⟩
  ·rw[if_neg hC]at e;cases e
 |cz C' mv=>
  unfold Dm.B3 at e;dsimp only at e;by_cases hC:C'=C
  ·subst hC;rw[if_pos rfl]at e;cases e;refine⟨H0,ρ,x1,_,st,e1,fun v H1 Hb t1 r1=>?_⟩;have rv:Rep Hb v (.cz C' mv):=(r1.look t1.st p1).full t1.st.same;cases rv with
   |cz q _=>exact⟨_,rfl,.inr ⟨_,q⟩,k _ H1 Hb t1 (Rep.bl _)⟩
  ·rw[if_neg hC]at e;cases e
 |_=>cases e
theorem aC{D:Addr}(Z:k6 X.K C)(k:eg X.K (.ref C) (.ref D)=some b)(hgT:Gl X tn)(hmT:X.mg tn=some (.ref D))(hg:Gl X "isinstance")(hm:X.mg "isinstance" = none)(h:DE X e f)(RQ:(tn == ("__debug__" : Str))=false:=by decide)
  (he:starEach [e,.Name tn p2] X.env=(false,eval e X.env)::starEach [.Name tn p2] X.env:=by rfl) (RN:(backTo pos (starEach [.Name tn p2] X.env)).any (·.1)=false:=by rfl) (he2:starEach [.Name tn p2] X.env=(false,eval (.Name tn p2) X.env)::starEach [] X.env:=by rfl) :
  DE X (.Call (.Name "isinstance" p) [e,.Name tn p2] [] pos) (Dm.e1 (Dm.B3 C b) f):=
 PE.weak (nW (B7 (c:=.ref D) rfl (fun u q=>q) Z k) hg hm Wu (gb h (gb (El (v:=.ref D) hgT hmT rfl RQ) mE he2) he) (he:=he) (RN:=RN)) fun _ _ _=>M9
theorem kQ{T:String}(Z:k6 X.K C)(k:eg X.K (.ref C) (.type T)=some b)(hvT:bootBuiltins tn=some (.type T))(hgT:Gl X tn)(hmT:X.mg tn=none)(hg:Gl X "isinstance")(hm:X.mg "isinstance" = none)(h:DE X e f)(hn:tn ≠ "__name__" := by decide)(RQ:(tn == ("__debug__" : Str))=false:=by decide)
  (he:starEach [e,.Name tn p2] X.env=(false,eval e X.env)::starEach [.Name tn p2] X.env:=by rfl) (RN:(backTo pos (starEach [.Name tn p2] X.env)).any (·.1)=false:=by rfl) (he2:starEach [.Name tn p2] X.env=(false,eval (.Name tn p2) X.env)::starEach [] X.env:=by rfl) :
  DE X (.Call (.Name "isinstance" p) [e,.Name tn p2] [] pos) (Dm.e1 (Dm.B3 C b) f):=
 PE.weak (nW (B7 (c:=.ty T) rfl (fun u q=>by cases q;rfl) Z k) hg hm Wu (gb h (gb (Em (v:=.ty T) hgT hmT hvT rfl hn RQ) mE he2) he) (he:=he) (RN:=RN)) fun _ _ _=>M9
end
end
theorem gX{K:gc}{h₀:Heap}{mg:Str->Option Value}{x:Str}{C:Addr}{bmB:List Value}{newId:String}(X:K.In h₀)(G:mg x=some (.ref C))(q:VA K C bmB newId=true):OwnCls x C bmB newId mg h₀:=by
 refine⟨G,?_⟩;unfold VA at q;split at q
 ·rename_i dd cd sl ho;split at q
  ·rename_i C' bm k0 k1 k2 k3 n k5 hm hs;simp only[U9,beq_iff_eq,Bool.not_eq_true']at q;obtain⟨⟨⟨⟨⟨rfl,rfl⟩,Rt⟩,ht⟩,hok⟩,hni⟩:=q;obtain⟨nm,bs,mro,ns,qn,hd,sn,sub,ab,col,del⟩:=cd;dsimp only at hm Rt hok hni;subst hm Rt;have hsl:sl=#[k0,k1,k2,k3,some (.builtin n),k5]:=by
    obtain⟨l⟩:=sl;simp only at hs;rw[hs]
   subst hsl;exact⟨bm,ns,nm,qn,bs,hd,sn,sub,ab,col,dd,k0,k1,k2,k3,k5,_,X _ _ ho,.of_isNs (PySem.W.isNs_of_in X hok),PySem.W.nsMap_none_of_in X hok hni,PySem.W.tail_of_in X ht⟩
  ·cases q
 ·cases q
noncomputable abbrev bmV:List Value:=[.type "ValueError",.type "Exception",.type "BaseException",.type "object"]
section
variable{X:Cx}
theorem ET{ns:List Int}{its:List Value}(rv:Vals (ns.map V.int) its):∀(i:Nat) (v:Value),its.toArray[i]?=some v->∃t,v=.int (ns.getD i 0) t:=by
 intro i v hv;have hv':its[i]?=some v:=by simpa using hv
 have RM:=rv.length;rw[Ud]at RM;have hi:i<ns.length:=by rw[RM];exact(UT.mp hv').1
 have hb:(ns.map V.int)[i]?=some (V.int ns[i]):=by rw[UX,Uz hi];rfl
 obtain⟨u,hu,ru⟩:=rv.get hb;rw[hv']at hu;cases hu;obtain⟨t,rfl⟩:=ru;exact⟨t,by rw[Vq,Uz hi];rfl⟩
theorem yo:∀{H0:Hp} {us:List V} {ds:List Dat} {ns:List Int},bz H0 us ds->Dm.nK ds=some ns->us=ns.map V.int
 |_,_,_,_,.nil,h=>by cases h;rfl
 |_,_,_,_,.cons (ds:=ds) (d:=d) r rr,h=>by
  cases d with
  |int i=>
   rw[Dm.nK]at h;cases hn:Dm.nK ds with
   |none=>rw[hn]at h;cases h
   |some ms=>rw[hn]at h;cases h;have:=Rep.isInt r;subst this;rw[yo rr hn];rfl
  |_=>cases h
end
end Br
namespace Dm
noncomputable abbrev FN:=Env->List (List Dat)->Option (Env×List (List Dat))
end Dm
namespace Br
open PySem PySem.Spec PyProof.Rows L2
open Classical in
open PySem
variable{C:List Value->Prop}{us:List Value}
theorem len0(h:us.length=0)(c:C []):C us:=by rw[List.eq_nil_of_length_eq_zero h];exact c
theorem LG{n:Nat}{C:List Value->Prop}{us:List Value}(h:us.length=n+1)(c:∀a us,us.length=n->C (a::us)):C us:=by
 cases us with
 |nil=>cases h
 |cons a us=>exact c a us (by simpa using h)
theorem Ru(h:us.length=1)(c:∀a,C [a]):C us:=LG h fun a _ h=>len0 h (C:=fun us=>C (a::us)) (c a)
theorem Im(h:us.length=2)(c:∀a b,C [a,b]):C us:=LG h fun a _ h=>Ru h (C:=fun us=>C (a::us)) (c a)
theorem Rv(h:us.length=3)(c:∀a b d,C [a,b,d]):C us:=LG h fun a _ h=>Im h (C:=fun us=>C (a::us)) (c a)
theorem Tt(h:us.length=4)(c:∀a b d e,C [a,b,d,e]):C us:=LG h fun a _ h=>Rv h (C:=fun us=>C (a::us)) (c a)
end Br
namespace L2
open PySem
variable{K:gc}{x qual:Str}{st:Stmt}{f:Addr}{fd:FuncData}{ps:List Str}
theorem Fun.OY(F:Fun K x qual st f fd)(hp:ps.length=0)(h:∀(kV doc pm:Value) (an:Option Addr) (cdv ct:Value) ,bindArgs (Vb x qual (cR st) (bR st) (aG st) .none kV doc pm an cdv ct) ⟨[],[]⟩=pure (ps.zip [])):Binds K fd ps []:=
 F.binds fun kV doc pm an cdv ct us hl=>Br.len0 (C:=fun us=>bindArgs (Vb x qual (cR st) (bR st) (aG st) .none kV doc pm an cdv ct) ⟨us,[]⟩=pure (ps.zip us)) (hl.trans hp) (h kV doc pm an cdv ct)
theorem Fun.qR(F:Fun K x qual st f fd)(hp:ps.length=1)(h:∀(kV doc pm:Value) (an:Option Addr) (cdv ct:Value) (a:Value),bindArgs (Vb x qual (cR st) (bR st) (aG st) .none kV doc pm an cdv ct) ⟨[a],[]⟩=pure (ps.zip [a])):Binds K fd ps []:=
 F.binds fun kV doc pm an cdv ct us hl=>Br.Ru (C:=fun us=>bindArgs (Vb x qual (cR st) (bR st) (aG st) .none kV doc pm an cdv ct) ⟨us,[]⟩=pure (ps.zip us)) (hl.trans hp) (h kV doc pm an cdv ct)
theorem Fun.oi(F:Fun K x qual st f fd)(hp:ps.length=2)(h:∀(kV doc pm:Value) (an:Option Addr) (cdv ct:Value) (a b:Value),bindArgs (Vb x qual (cR st) (bR st) (aG st) .none kV doc pm an cdv ct) ⟨[a,b],[]⟩=pure (ps.zip [a,b])):Binds K fd ps []:=
 F.binds fun kV doc pm an cdv ct us hl=>Br.Im (C:=fun us=>bindArgs (Vb x qual (cR st) (bR st) (aG st) .none kV doc pm an cdv ct) ⟨us,[]⟩=pure (ps.zip us)) (hl.trans hp) (h kV doc pm an cdv ct)
theorem Fun.AZ(F:Fun K x qual st f fd)(hp:ps.length=3)(h:∀(kV doc pm:Value) (an:Option Addr) (cdv ct:Value) (a b d:Value),bindArgs (Vb x qual (cR st) (bR st) (aG st) .none kV doc pm an cdv ct) ⟨[a,b,d],[]⟩=pure (ps.zip [a,b,d])):Binds K fd ps []:=
 F.binds fun kV doc pm an cdv ct us hl=>Br.Rv (C:=fun us=>bindArgs (Vb x qual (cR st) (bR st) (aG st) .none kV doc pm an cdv ct) ⟨us,[]⟩=pure (ps.zip us)) (hl.trans hp) (h kV doc pm an cdv ct)
theorem Fun.IA(F:Fun K x qual st f fd)(hp:ps.length=4)(h:∀(kV doc pm:Value) (an:Option Addr) (cdv ct:Value) (a b d e:Value),bindArgs (Vb x qual (cR st) (bR st) (aG st) .none kV doc pm an cdv ct) ⟨[a,b,d,e],[]⟩=pure (ps.zip [a,b,d,e])):Binds K fd ps []:=
 F.binds fun kV doc pm an cdv ct us hl=>Br.Tt (C:=fun us=>bindArgs (Vb x qual (cR st) (bR st) (aG st) .none kV doc pm an cdv ct) ⟨us,[]⟩=pure (ps.zip us)) (hl.trans hp) (h kV doc pm an cdv ct)
end L2
namespace Dm
noncomputable def nR(a:Int):List Int->Int
 |[]=>a
 |x::r=>nR (if x<a then x else a) r
noncomputable def Ah:List Dat->Option RV
 | [.lst xs]=>(match nK xs with
  |some (n::ns)=>vI (nR n ns)
  |_=>none)
 |_=>none
end Dm
namespace Br
open PySem PySem.Spec PyProof.Rows L2
theorem IB(a x:Int)(l:List Int):Dm.nR a (l++[x])=if x<Dm.nR a l then x else Dm.nR a l:=by
 induction l generalizing a with
 |nil=>rfl
 |cons y l ih=>rw[Ur,Dm.nR,ih,Dm.nR]
theorem B8(n0:Int)(ns:List Int):∀k,k<=ns.length->(n0::ns).getD (argBest (fun i j=>decide ((n0::ns).getD i 0<(n0::ns).getD j 0)) k) 0=Dm.nR n0 (ns.take k)
 |0,_=>rfl
 |k+1,h=>by
  have ih:=B8 n0 ns k (by lia);have e:argBest (fun i j=>decide ((n0::ns).getD i 0<(n0::ns).getD j 0)) (k+1)=if decide ((n0::ns).getD (k+1) 0<(n0::ns).getD (argBest (fun i j=>decide ((n0::ns).getD i 0<(n0::ns).getD j 0)) k) 0) then k+1 else argBest (fun i j=>decide ((n0::ns).getD i 0<(n0::ns).getD j 0)) k:=rfl
  have ek:(n0::ns).getD (k+1) 0=ns[k]'(by omega):=by rw[Vq,PU,Uz (by lia)];rfl
  rw[e,ih,ek,List.take_succ_eq_append_getElem (by lia),IB];by_cases c:ns[k]'(by lia)<Dm.nR n0 (ns.take k)
  ·rw[decide_eq_true c,if_pos rfl,if_pos c,ek]
  ·rw[decide_eq_false c,if_neg (by decide),if_neg c,ih]
section
variable{X:Cx}
theorem Gg(hc:X.calm=true):kH X (.builtin "min") (fun xs H Q=>∃(a:Addr) (n:Int) (ns:List Int),xs=[.ref a]/\Rd H a (.lst ((n::ns).map V.int))/\Q (.int (Dm.nR n ns)) H):=by
 intro Ju s σ H xs us Q I r h;obtain⟨a,n0,ns,rfl,hq,q⟩:=h;obtain⟨u,rfl,rx⟩:=vals1 r;cases rx;obtain⟨z,its,n,rv,e⟩:=hq.ok I.hok;have hl:s.heap.IsList a its.toArray:=⟨_,e,rfl,_,rfl⟩
 have RM:=rv.length;rw[Ud]at RM;have hax:a≠s.heap.objs.size:=UM (Uh e);have e1:its.toArray.size=ns.length+1:=by rw[UE,<- RM];rfl
 refine PySem.call_min_walk (wpAny_pyIter_list hl ⟨s.heap.objs.size,_,_,_,_,_,_,rfl,Walks.list (A:=X.A.in1) (I.ok.hd hc) s.heap.objs.size a hax its.toArray,⟨⟨_,UW _ rfl,rfl,rfl⟩,hl.push _⟩,?_,by rw[e1];exact Ww _,CmpOf.ints_lt (fun i=>(n0::ns).getD i 0) (ET rv),fun v h' tk hp hk=>?_⟩)
 ·intro b hb;simp only[Ui,VV,or_false]at hb;rcases hb with rfl | rfl
  ·show s.heap.objs.size<_;exact Wa ..▸Xe _
  ·show b<_;exact Wa ..▸V5 (Uh e)
 ·obtain⟨t',rfl⟩:=ET rv _ _ hp;refine⟨.int (Dm.nR n0 ns),H,I.kept (t':=tk) fun b o eb=>hk b o ?_ (Dk _ eb),⟨t',?_⟩,q⟩
  ·intro hm;have:b=s.heap.objs.size:=by simpa using hm
   exact absurd (Uh eb) (by rw[this];exact V1 _)
  ·rw[e1,Vw,B8 n0 ns _ (Nat.le_refl _),XT]
theorem LH:CallD (fun xs H Q=>∃(a:Addr) (n:Int) (ns:List Int),xs=[.ref a]/\Rd H a (.lst ((n::ns).map V.int))/\Q (.int (Dm.nR n ns)) H) Dm.Ah:=by
 intro H0 H vs ds z Q s rs e k;unfold Dm.Ah at e;split at e
 ·split at e
  ·rename_i n ns hb;cases e;cases rs with
   |cons r rr=>cases rr;obtain⟨a,us,rfl,qa,ra⟩:=ef s r;have:=yo ra hb;subst this;exact⟨a,n,ns,rfl,qa,k _ H0 H (bA.refl s) (.int _)⟩
  ·cases e
 ·cases e
end
section
variable{X:Cx}{e:Expr}{fs:List FE}{p pos:Pos}
theorem OZ(hc:X.calm=true)(hg:Gl X "min")(hm:X.mg "min" = none)(ha:DA X [e] fs)(he:starEach [e] X.env=[(false,eval e X.env)]:=by rfl)(RN:(backTo pos (starEach [] X.env)).any (·.1)=false:=by rfl):DE X (.Call (.Name "min" p) [e] [] pos) (Dm.eB Dm.Ah fs):=F2 (Gg hc) LH (by rfl) hg hm ha (he:=he) (RN:=RN)
end
end Br
namespace Sx
open PySem PySem.SetTable
theorem A0(xs:Array Nat)(j:Nat)(hs:xs.toList.Pairwise (· < ·)):∀(f lo hi:Nat),hi<=xs.size->hi-lo<=f->lo<=hi->(∀i,i<lo->∀v,xs[i]?=some v->v<j)->(∀i,hi<=i->∀v,xs[i]?=some v->j<=v) ->
  (∀i,i<below.go xs j f lo hi->∀v,xs[i]?=some v->v<j)/\(∀i,below.go xs j f lo hi<=i->∀v,xs[i]?=some v->j<=v)/\below.go xs j f lo hi<=xs.size
 |0,lo,hi,h1,h2,h3,a,b=>by
  unfold below.go;have:lo=hi:=by lia
  subst this;exact⟨a,b,h1⟩
 |f+1,lo,hi,h1,h2,h3,a,b=>by
  unfold below.go;have mono:∀i k v w,i<=k->xs[i]?=some v->xs[k]?=some w->v<=w:=fun i k v w hik e1 e2=>by
   rcases VN hik with z | z
   ·subst z;rw[e1]at e2;cases e2;exact Nat.le_refl _
   ·obtain⟨q1,q2⟩:=Vf.mp e1;obtain⟨q3,q4⟩:=Vf.mp e2;have:=Vj.mp hs i k (by simpa using q1) (by simpa using q3) z;simp only[V9]at this
    lia
  split
  ·rename_i RO;have hm:(lo+hi) / 2<xs.size:=by lia
   dsimp only;rw[UB,Ds hm,WE];split
   ·rename_i hv;refine A0 xs j hs f _ hi h1 (by lia) (by lia) (fun i hi' v e=>?_) b;have:=mono i ((lo+hi) / 2) v _ (by lia) e (Ds hm)
    lia
   ·rename_i hv;refine A0 xs j hs f lo _ (by lia) (by lia) (by lia) a fun i hi' v e=>?_;have:=mono ((lo+hi) / 2) i _ v hi' (Ds hm) e
    lia
  ·have:lo=hi:=by lia
   subst this;exact⟨a,b,h1⟩
theorem kR{xs:Array Nat}(j:Nat)(hs:xs.toList.Pairwise (· < ·)):(∀i,i<below xs j->∀v,xs[i]?=some v->v<j)/\(∀i,below xs j<=i->∀v,xs[i]?=some v->j<=v)/\below xs j<=xs.size:=
 A0 xs j hs xs.size 0 xs.size (Nat.le_refl _) (by lia) (U6 _) (fun i h=>by lia) fun i h v e=>by rw[Xc h]at e;cases e
theorem u6{xs:Array Nat}{j:Nat}(hs:xs.toList.Pairwise (· < ·)):xs[below xs j]?=some j↔j∈xs.toList:=by
 obtain⟨a,b,c⟩:=kR j hs;constructor
 ·intro h;obtain⟨q1,q2⟩:=Vf.mp h;rw[<- q2];exact WU q1
 ·intro h;obtain⟨i,hi,e⟩:=VT h;have hi':i<xs.size:=by simpa using hi
  have e':xs[i]?=some j:=by rw[Ds hi'];simpa using e
  have h1:below xs j<=i:=Wm.mp fun z=>by have:=a i z j e';lia
  have hb:below xs j<xs.size:=by lia
  have h2:=b (below xs j) (Nat.le_refl _) _ (Ds hb);rcases VN h1 with z | z
  ·rw[z];exact e'
  ·have:=Vj.mp hs (below xs j) i (by simpa using hb) hi z;simp only[V9]at this;have e2:xs[i]=j:=by simpa using e
   lia
theorem kr{α:Type}(xs:Array α)(p:Nat)(x:α):(insertAt xs p x).toList=xs.toList.take p++x::xs.toList.drop p:=by unfold insertAt;simp[UY,VS,Vy,VB]
theorem zO{xs:Array Nat}{j:Nat}(hs:xs.toList.Pairwise (· < ·))(hj:j∉xs.toList):(insertAt xs (below xs j) j).toList.Pairwise (· < ·):=by
 obtain⟨a,b,c⟩:=kR j hs;rw[kr];have l1:∀v∈xs.toList.take (below xs j),v<j:=fun v hv=>by
  obtain⟨i,hi,e⟩:=VT hv;rw[Vn]at hi;rw[List.getElem_take]at e;refine a i (by lia) v ?_;rw[Ds (by rw[Dp]at hi;lia)]
  simpa using e
 have l2:∀v∈xs.toList.drop (below xs j),j<v:=fun v hv=>by
  have hm:=VP hv;obtain⟨i,hi,e⟩:=VT hv;rw[Wd,Dp]at hi;rw[List.getElem_drop]at e;have:=b (below xs j+i) (by lia) v (by rw[Ds (by lia)];simpa using e);rcases VN this with z | z
  ·exact absurd (z▸hm) hj
  ·exact z
 rw[U5];refine⟨hs.sublist (List.take_sublist _ _),?_,fun u hu v hv=>?_⟩
 ·rw[VM];exact⟨l2,hs.sublist (XN _ _)⟩
 ·rcases Ui.mp hv with rfl | hv
  ·exact l1 u hu
  ·exact Yj (l1 u hu) (l2 v hv)
noncomputable def lp(mask:Nat):Nat->Nat×Nat->Nat×Nat
 |0,q=>q
 |m+1,q=>lp mask m (leap mask q.1 q.2)
noncomputable def lc(mask:Nat):Nat->Nat->Nat
 |0,i=>i
 |m+1,i=>lc mask m ((i*5+1) % (mask+1))
theorem EU(mask:Nat):∀m i,lp mask m (i,0)=(lc mask m i,0)
 |0,_=>rfl
 |m+1,i=>by unfold lp lc leap;simp only[Nat.zero_div,Yk];exact EU mask m _
theorem IC(mask:Nat):∀a b q,lp mask (a+b) q=lp mask b (lp mask a q)
 |0,b,q=>by rw[UA];rfl
 |a+1,b,q=>by rw[Nat.add_right_comm];show lp mask (a+b) (leap mask q.1 q.2)=lp mask b (lp mask a (leap mask q.1 q.2));exact IC mask a b _
theorem ID(mask:Nat):∀m q,(lp mask m q).2=q.2 / 32 ^ m
 |0,q=>by simp[lp]
 |m+1,q=>by show (lp mask m (leap mask q.1 q.2)).2=_;rw[ID mask m];unfold leap;dsimp only;rw[Nat.div_div_eq_div_mul,Nat.pow_succ,Nat.mul_comm]
theorem B9(mask:Nat):∀m q,q.1<=mask->(lp mask m q).1<=mask
 |0,_,h=>h
 |m+1,q,h=>B9 mask m _ (by unfold leap;exact V7 (WY _ (Ww mask)))
def Cov(mask:Nat):Prop:=∀i,i<=mask->∀j,j<=mask->∃m,m<=mask/\lc mask m i=j
noncomputable def Rw(mask:Nat):Bool:=(UG (mask+1)).all fun i=>(UG (mask+1)).all fun j=>(UG (mask+1)).any fun m=>lc mask m i == j
theorem IE{mask:Nat}(h:Rw mask=true):Cov mask:=fun i hi j hj=>by unfold Rw at h;have h1:=Vd.mp h i (U4.mpr (by lia));have h2:=Vd.mp h1 j (U4.mpr (by lia));obtain⟨m,hm,e⟩:=WG.mp h2;have:=U4.mp hm;exact⟨m,by lia,by simpa using e⟩
theorem Tu:Cov 7:=IE (by decide +kernel)
theorem Rx:Cov 31:=IE (by decide +kernel)
noncomputable def orb(mask:Nat):Nat->Nat->List Nat
 |0,_=>[]
 |m+1,i=>i::orb mask m ((i*5+1) % (mask+1))
theorem IF(mask:Nat):∀(n i m:Nat),m<n->(orb mask n i)[m]?=some (lc mask m i)
 |0,i,m,h=>by lia
 |n+1,i,0,h=>rfl
 |n+1,i,m+1,h=>by show (orb mask n ((i*5+1) % (mask+1)))[m]?=_;rw[IF mask n _ m (by lia)];rfl
theorem A3(mask:Nat):∀(n i:Nat),(orb mask n i).length=n
 |0,_=>rfl
 |n+1,i=>by show (orb mask n _).length+1=_;rw[A3 mask n]
theorem A4(mask:Nat):∀a b i,lc mask (a+b) i=lc mask b (lc mask a i)
 |0,b,i=>by rw[UA];rfl
 |a+1,b,i=>by rw[Nat.add_right_comm];show lc mask (a+b) _=lc mask b (lc mask a _);exact A4 mask a b _
theorem IG{mask:Nat}(h1:((UG (mask+1)).all fun j=>(orb mask (mask+1) 0).elem j)=true)(h2:lc mask (mask+1) 0=0):Cov mask:=fun i hi j hj=>by
 have look:∀x,x<=mask->∃m,m<=mask/\lc mask m 0=x:=fun x hx=>by have:=Vd.mp h1 x (U4.mpr (by lia));have:=List.elem_iff.mp this;obtain⟨m,hm,e⟩:=VT this;rw[A3]at hm;have e2:=IF mask (mask+1) 0 m hm;rw[Uz (by rw[A3];exact hm),e]at e2;cases e2;exact⟨m,by lia,rfl⟩
 obtain⟨a,ha,ea⟩:=look i hi;obtain⟨b,hb,eb⟩:=look j hj;by_cases h:a<=b
 ·exact⟨b-a,by lia,by rw[<- ea,<- A4,show a+(b-a)=b by lia];exact eb⟩
 ·exact⟨mask+1+b-a,by lia,by rw[<- ea,<- A4,show a+(mask+1+b-a)=mask+1+b by lia,A4,h2];exact eb⟩
theorem O0:Cov 127:=IG (by decide +kernel) (by decide +kernel)
theorem EV(h:Int):bits h<2 ^ 64:=by
 unfold bits;have h1:(0:Int)<=h % 2 ^ 64:=VQ _ (by decide);have h2:h % 2 ^ 64<2 ^ 64:=VZ _ (by decide)
 lia
theorem ZI{mask:Nat}(c:Cov mask){i p:Nat}(hi:i<=mask)(hp:p<2 ^ 64){j:Nat}(hj:j<=mask):∃m,m<mask+14/\(lp mask m (i,p)).1=j:=by
 have z:(lp mask 13 (i,p)).2=0:=by rw[ID];exact Nat.div_eq_of_lt (UJ hp (by decide))
 have hl:=B9 mask 13 (i,p) hi;obtain⟨m,hm,e⟩:=c _ hl j hj;refine⟨13+m,by lia,?_⟩;rw[IC,show lp mask 13 (i,p)=((lp mask 13 (i,p)).1,0) from Prod.ext rfl z,EU];exact e
theorem sub_len{l m:List Nat}(hl:l.Nodup)(h:∀x∈l,x∈m):l.length<=m.length:=by
 induction l generalizing m with
 |nil=>exact U6 _
 |cons x l ih=>
  obtain⟨n1,n2⟩:=VI.mp hl;have hx:x∈m:=h x Uj;have:=ih (m:=m.erase x) n2 fun y hy=>by rw[List.mem_erase_of_ne (fun z:y=x=>n1 (z▸hy))];exact h y (Ue _ hy)
  rw[List.length_erase_of_mem hx]at this;have:=List.length_pos_of_mem hx;simp only[Ub]
  lia
theorem room{mask:Nat}{l:List Nat}(h:l.length<=mask):∃j,j<=mask/\j∉l:=by
 refine WL fun z=>?_;have:=sub_len (l:=UG (mask+1)) (m:=l) List.nodup_range fun x hx=>WL fun q=>z ⟨x,by have:=U4.mp hx;lia,q⟩;rw[W7]at this
 lia
theorem EW(j:Nat):has #[] j=false:=by unfold has;simp
structure Good(t:SetTable)(n:Nat):Prop where
 dm:t.dummies=#[]
 pl:t.plain=true
 cv:Cov t.mask
 ris:t.place.toList.Pairwise (· < ·)
 le:∀j∈t.place.toList,j<=t.mask
 sz:t.place.size=n
theorem Good.slot{t:SetTable}{n:Nat}(g:Good t n)(j:Nat):(j∉t.place.toList/\t.slot j=.empty)\/(j∈t.place.toList/\∃i,t.slot j=.live i):=by
 unfold SetTable.slot;by_cases h:j∈t.place.toList
 ·right;refine⟨h,below t.place j,?_⟩;dsimp only;rw[if_pos (by rw[(u6 g.ris).mpr h];exact beq_self_eq_true _)]
 ·left;refine⟨h,?_⟩;dsimp only;rw [if_neg (by
   intro z;exact h ((u6 g.ris).mp (by simpa using z))),if_neg (by
   rw[g.dm,EW];exact UZ)]
noncomputable def Ai(mask i p:Nat):Probe:={ j:=i,more:=runEnd mask i-i,i:=i,perturb:=p,dummy:=none }
theorem EX{t:SetTable}{h:Int}{f k:Nat}{p:Probe}(q:t.slot p.j=.live k):probe.go t (fun _=>h+1) h (f+1) p=probe.go t (fun _=>h+1) h f (t.advance p):=by
 have nh:(h+1 == h)=false:=by
  rw[beq_eq_false_iff_ne]
  lia
 conv=>lhs;unfold probe.go
 rw[q];dsimp only;rw[nh];rfl
theorem II{t:SetTable}{h:Int}{f:Nat}{p:Probe}(q:t.slot p.j=.empty):probe.go t (fun _=>h+1) h (f+1) p=some (.empty p.j p.dummy):=by
 conv=>lhs;unfold probe.go
 rw[q]
theorem AS{t:SetTable}{n:Nat}(g:Good t n){h:Int}{i p:Nat}:∀(d f j:Nat),j+d<=t.mask->d<f -> 
  (∃j',probe.go t (fun _=>h+1) h f { j:=j,more:=d,i:=i,perturb:=p,dummy:=none }=some (.empty j' none)/\j'<=t.mask/\j'∉t.place.toList) \/
  (probe.go t (fun _=>h+1) h f { j:=j,more:=d,i:=i,perturb:=p,dummy:=none }=probe.go t (fun _=>h+1) h (f-(d+1)) (Ai t.mask (leap t.mask i p).1 (leap t.mask i p).2)/\j∈t.place.toList)
 |d,0,j,h1,h2=>by lia
 |d,f+1,j,h1,h2=>by
  rcases g.slot j with⟨q1,q2⟩ | ⟨q1,k,q2⟩
  ·exact .inl ⟨j,II (p:={ j:=j,more:=d,i:=i,perturb:=p,dummy:=none }) q2,by lia,q1⟩
  ·rw[EX (p:={ j:=j,more:=d,i:=i,perturb:=p,dummy:=none }) q2];cases d with
   |zero=>exact .inr ⟨rfl,q1⟩
   |succ d=>
    have ea:t.advance { j:=j,more:=d+1,i:=i,perturb:=p,dummy:=none }={ j:=j+1,more:=d,i:=i,perturb:=p,dummy:=none }:=rfl;rw[ea];rcases AS g (h:=h) (i:=i) (p:=p) d f (j+1) (by lia) (by lia) with z | ⟨z,_⟩
    ·exact .inl z
    ·refine .inr ⟨?_,q1⟩;rw[z,show f-(d+1)=f+1-(d+1+1) by lia]
theorem B_{t:SetTable}{n:Nat}(g:Good t n){h:Int}:∀(k f i p:Nat),i<=t.mask->10*k<=f->(∃m,m<k/\(lp t.mask m (i,p)).1∉t.place.toList) -> 
  ∃j',probe.go t (fun _=>h+1) h f (Ai t.mask i p)=some (.empty j' none)/\j'<=t.mask/\j'∉t.place.toList
 |0,f,i,p,_,_,⟨m,hm,_⟩=>by lia
 |k+1,f,i,p,hi,hf,⟨m,hm,e⟩=>by
  have hr:runEnd t.mask i-i<=9/\i+(runEnd t.mask i-i)<=t.mask:=by unfold runEnd;split<;>lia
  rcases AS g (h:=h) (i:=i) (p:=p) (runEnd t.mask i-i) f i hr.2 (by lia) with z | ⟨z,q⟩
  ·exact z
  ·have hm0:m≠0:=fun y=>by subst y;exact e q
   obtain⟨m',rfl⟩:∃m',m=m'+1:=⟨m-1,by lia⟩
   obtain⟨j',a,b,c⟩:=B_ g (h:=h) k (f-(runEnd t.mask i-i+1)) (leap t.mask i p).1 (leap t.mask i p).2 (B9 t.mask 1 (i,p) hi) (by lia) ⟨m',by lia,e⟩;exact⟨j',z.trans a,b,c⟩
theorem Dv{t:SetTable}{n:Nat}(g:Good t n){j:Nat}(h1:j<=t.mask)(h2:j∉t.place.toList):Good (t.put j).1 (n+1)/\(t.put j).1.mask=t.mask/\(t.put j).1.led=t.led:=by
 have hl:(insertAt t.place (below t.place j) j).toList=_:=kr _ _ _;refine⟨⟨?_,g.pl,g.cv,zO g.ris h2,fun i hi=>?_,?_⟩,rfl,rfl⟩
 ·unfold SetTable.put;dsimp only;rw[g.dm];rw[EW];rfl
 ·have hi:i∈(insertAt t.place (below t.place j) j).toList:=hi;rw[hl]at hi;rcases Uy.mp hi with hi | hi
  ·exact g.le i (Vz hi)
  ·rcases Ui.mp hi with rfl | hi
   ·exact h1
   ·exact g.le i (VP hi)
 ·show (insertAt t.place (below t.place j) j).size=n+1;rw[<- Dp,hl,UO,Ub,Vn,Wd];have:=(kR j g.ris).2.2;have:=g.sz;rw[Dp]
  lia
theorem Good.fits{t:SetTable}{n:Nat}(g:Good t n)(hn:n<=t.mask):t.fits n=true:=by unfold SetTable.fits SetTable.fill;rw[g.dm,g.sz];simp;exact hn
theorem oj{α β:Type}{f g:α->Option β}:∀{l:List α},(∀x∈l,f x=g x)->l.filterMap f=l.filterMap g
 |[],_=>rfl
 |x::l,h=>by rw[Vi,Vi,h x Uj,oj fun y hy=>h y (Ue _ hy)]
theorem IK(f:Nat->Option Nat)(j0 k:Nat):∀(l:List Nat),l.Nodup->j0∈l->f j0=none->(l.filterMap (fun j=>if j=j0 then some k else f j)).Perm (k::l.filterMap f)
 |[],_,h,_=>by cases h
 |x::r,nd,h,h0=>by
  obtain⟨n1,n2⟩:=VI.mp nd;by_cases e:x=j0
  ·subst e;have er:r.filterMap (fun j=>if j=x then some k else f j)=r.filterMap f:=oj fun y hy=>by rw[if_neg fun z:y=x=>n1 (z▸hy)]
   rw[Vi,if_pos rfl,Vi,h0,er]
  ·have hr:j0∈r:=(Ui.mp h).resolve_left fun z=>e z.symm;have ih:=IK f j0 k r n2 hr h0;rw[Vi,if_neg e,Vi];cases f x with
   |none=>exact ih
   |some v=>exact(ih.cons v).trans (.swap _ _ _)
noncomputable def ow(owner:Array (Option Nat))(j:Nat):Option Nat:=owner.getD j none
noncomputable def lay(mask:Nat)(owner:Array (Option Nat)):List Nat:=(UG (mask+1)).filterMap (ow owner)
theorem EY{mask:Nat}{owner:Array (Option Nat)}(hs:owner.size=mask+1):∀(fuel i p:Nat),i<=mask->(∃m,m<fuel/\owner[(lp mask m (i,p)).1]?=some none)->∃j,layClean.free mask owner fuel i p=some j/\j<=mask/\owner[j]?=some none
 |0,i,p,_,⟨m,hm,_⟩=>by lia
 |fuel+1,i,p,hi,⟨m,hm,e⟩=>by
  have hr:i<=runEnd mask i/\runEnd mask i<=mask:=by unfold runEnd;split<;>lia
  unfold layClean.free;cases hf:(UG (runEnd mask i+1-i)).find? fun k=>(owner.getD (i+k) (some 0)).isNone with
  |some k=>
   dsimp only;have h1:=List.find?_some hf;have h2:=U4.mp (List.mem_of_find?_eq_some hf);refine⟨i+k,rfl,by lia,?_⟩;have RO:i+k<owner.size:=by lia
   rw[UB,Ds RO,WE]at h1;rw[Ds RO];exact congrArg some (Option.isNone_iff_eq_none.mp h1)
  |none=>
   dsimp only;have h1:=List.find?_eq_none.mp hf 0 (U4.mpr (by lia));have hm0:m≠0:=fun y=>by subst y;have e:owner[i]?=some none:=e;rw[Yk,UB,e]at h1;exact h1 rfl
   obtain⟨m',rfl⟩:∃m',m=m'+1:=⟨m-1,by lia⟩
   exact EY hs fuel (leap mask i p).1 (leap mask i p).2 (B9 mask 1 (i,p) hi) ⟨m',by lia,e⟩
theorem IL{mask:Nat}{owner:Array (Option Nat)}(hs:owner.size=mask+1)(hk:(lay mask owner).length<=mask):∃j,j<=mask/\owner[j]?=some none:=by
 obtain ⟨j,h1,h2⟩:=room (mask:=mask) (l:=(UG (mask+1)).filter fun j=>(ow owner j).isSome) (by
  have:∀l:List Nat,(l.filter fun j=>(ow owner j).isSome).length=(l.filterMap (ow owner)).length:=fun l=>by
   induction l with
   |nil=>rfl
   |cons x l ih=>
    rw[List.filter_cons,Vi];cases ow owner x with
    |none=>simpa using ih
    |some v=>simpa using ih
  rw[this];exact hk)
 refine⟨j,h1,?_⟩;have RO:j<owner.size:=by lia
 rw[Ds RO];cases q:owner[j] with
 |none=>rfl
 |some v=>refine absurd (WJ.mpr ⟨U4.mpr (by lia),?_⟩) h2;unfold ow;rw[UB,Ds RO,q];rfl
theorem LJ{mask:Nat}{owner:Array (Option Nat)}(hs:owner.size=mask+1){j k:Nat}(hj:j<=mask)(h0:owner[j]?=some none):(lay mask (owner.setIfInBounds j (some k))).Perm (k::lay mask owner):=by
 have:lay mask (owner.setIfInBounds j (some k))=(UG (mask+1)).filterMap (fun i=>if i=j then some k else ow owner i):=oj fun i hi=>by
  unfold ow;rw[UB,UB,Wx];by_cases e:i=j
  ·subst e;rw[if_pos rfl,if_pos rfl,if_pos (by lia)];rfl
  ·rw[if_neg fun z=>e z.symm,if_neg e]
 rw[this];exact IK _ _ _ _ List.nodup_range (U4.mpr (by lia)) (by unfold ow;rw[UB,h0];rfl)
theorem yp{mask:Nat}(c:Cov mask):∀(hs:List Int) (owner:Array (Option Nat)) (k:Nat),owner.size=mask+1->(lay mask owner).Perm (UG k)->k+hs.length<=mask ->
  ∃ owner',hs.foldl (fun Mc h=>do
   let (owner,k) <- Mc
   let j <- layClean.free mask owner (turns mask) (bits h % (mask+1)) (bits h)
   pure (owner.setIfInBounds j (some k),k+1)) (some (owner,k))=some (owner',k+hs.length)/\(lay mask owner').Perm (UG (k+hs.length))/\owner'.size=mask+1
 |[],owner,k,h1,h2,_=>⟨owner,rfl,h2,h1⟩
 |h::hs,owner,k,h1,h2,h3=>by
  rw[Ub]at h3;obtain⟨j0,a,b⟩:=IL h1 (by rw[h2.length_eq,W7];lia);have hi:bits h % (mask+1)<=mask:=V7 (WY _ (Ww _));obtain⟨m,hm,e⟩:=ZI c hi (EV h) a;obtain⟨j,f1,f2,f3⟩:=EY h1 (turns mask) (bits h % (mask+1)) (bits h) hi ⟨m,by unfold turns;lia,by rw[e];exact b⟩;obtain⟨owner',q1,q2,q3⟩:=yp c hs (owner.setIfInBounds j (some k)) (k+1) (by rw[Array.size_setIfInBounds];exact h1)
   ((LJ h1 f2 f3).trans (by rw[List.range_succ];exact(h2.cons k).trans (List.perm_append_singleton _ _).symm)) (by lia)
  refine⟨owner',?_,?_,q3⟩
  ·rw[Wj,Ub,show k+(hs.length+1)=k+1+hs.length by lia,<- q1]
   congr 1
   show (layClean.free mask owner (turns mask) (bits h % (mask+1)) (bits h)).bind _=_;rw[f1];rfl
  ·rw[Ub,show k+(hs.length+1)=k+1+hs.length by lia];exact q2
theorem LK{mask finger moves:Nat}{led plain:Bool}{hashes:Array Int}(c:Cov mask)(hn:hashes.size<=mask):∃t order,laid mask finger moves led plain hashes=some (t,order)/\t.mask=mask/\t.led=led/\t.plain=plain/\t.dummies=#[] /\
  t.place.toList.Pairwise (· < ·)/\(∀j∈t.place.toList,j<=mask)/\t.place.size=hashes.size/\order.toList.Perm (UG hashes.size):=by
 obtain ⟨owner,q1,q2,q3⟩:=yp c hashes.toList (Xn (mask+1) none) 0 (by simp) (by
  have:lay mask (Xn (mask+1) none)=[]:=by unfold lay;rw[List.filterMap_eq_nil_iff];intro j hj;unfold ow;rw[UB,WV];split<;>rfl
  rw[this];exact .refl _) (by rw[Dp];lia)
 rw[UA,Dp]at q1 q2;have lc:layClean mask hashes=some owner:=by unfold layClean;rw[<- Array.foldl_toList,q1];rfl
 have e2:((UG (mask+1)).filterMap fun j=>(owner.getD j none).map (j,·)).map (·.2)=lay mask owner:=by unfold lay;rw[List.map_filterMap];refine oj fun j _=>?_;unfold ow;cases owner.getD j none<;>rfl
 have e1:((UG (mask+1)).filterMap fun j=>(owner.getD j none).map (j,·)).map (·.1)=(UG (mask+1)).filter fun j=>(owner.getD j none).isSome:=by rw[List.map_filterMap,<- List.filterMap_eq_filter];refine oj fun j _=>?_;unfold Option.guard;cases q:owner.getD j none<;>simp[q]
 unfold laid;rw[lc];refine⟨_,_,rfl,rfl,rfl,rfl,rfl,?_,fun j hj=>?_,?_,?_⟩
 ·show ((((UG (mask+1)).filterMap fun j=>(owner.getD j none).map (j,·)).map (·.1)).toArray).toList.Pairwise _;rw[e1];exact(List.pairwise_lt_range).sublist List.filter_sublist
 ·have hj:j∈((((UG (mask+1)).filterMap fun j=>(owner.getD j none).map (j,·)).map (·.1)).toArray).toList:=hj;rw[e1]at hj;have:=U4.mp (WJ.mp hj).1
  lia
 ·show ((((UG (mask+1)).filterMap fun j=>(owner.getD j none).map (j,·)).map (·.1)).toArray).size=_;rw[UE,Ud,<- Ud (f:=(·.2)),e2,q2.length_eq,W7]
 ·show ((((UG (mask+1)).filterMap fun j=>(owner.getD j none).map (j,·)).map (·.2)).toArray).toList.Perm _;rw[e2];exact q2
open PySem PySem.SetTable PySem.W
theorem cU:Slot "set_iterator" "__next__" "set_iterator.__next__":=
 .of (owner := "set_iterator") (n := "__next__") (by rw[typeLookup_type,builtinLookup_eq_fast];kernel_rfl) (by decide +kernel) (by decide +kernel) (by decide +kernel)
  (by first | exact .inl (by decide +kernel) | exact .inr (by decide +kernel)) (by rw[isSubtype_type];kernel_rfl)
theorem l_:entryFor table "set_iterator.__next__" = some Builtin.«set_iterator.__next__»:=entryFor_of_tree (by kernel_rfl)
theorem wu:Manifest.owners.lookup (String.ofList ['r','o','t','a','r','e','t','i','_','t','e','s'].reverse)=some Manifest.sig_set_iterator:=by kernel_rfl
theorem nL(a:Value):argsOk "set_iterator.__next__" ⟨[a],[]⟩:=by unfold argsOk;rw[signature?_of (id := "set_iterator.__next__") (n:=['_','_','t','x','e','n','_','_']) (o:=['r','o','t','a','r','e','t','i','_','t','e','s']) (by kernel_rfl) wu];kernel_rfl
theorem nM:Slot "set_iterator" "__iter__" "set_iterator.__iter__":=
 .of (owner := "set_iterator") (n := "__iter__") (by rw[typeLookup_type,builtinLookup_eq_fast];kernel_rfl) (by decide +kernel) (by decide +kernel) (by decide +kernel)
  (by first | exact .inl (by decide +kernel) | exact .inr (by decide +kernel)) (by rw[isSubtype_type];kernel_rfl)
theorem u7:entryFor table "set_iterator.__iter__" = some Builtin.«dict_keyiterator.__iter__»:=
 entryFor_alias (id' := "dict_keyiterator.__iter__") (by kernel_rfl) rfl (by decide +kernel) (by kernel_rfl)
theorem wL(a:Value):argsOk "set_iterator.__iter__" ⟨[a],[]⟩:=by unfold argsOk;rw[signature?_of (id := "set_iterator.__iter__") (n:=['_','_','r','e','t','i','_','_']) (o:=['r','o','t','a','r','e','t','i','_','t','e','s']) (by kernel_rfl) wu];kernel_rfl
theorem yq:entryFor table "set.__iter__" = some Builtin.«frozenset.__iter__»:=
 entryFor_alias (id' := "frozenset.__iter__") (by kernel_rfl) rfl (by decide +kernel) (by kernel_rfl)
theorem yr{α:Type}:∀(l:List α) (i:Nat) (h:i<l.length),(l[i]::l.eraseIdx i).Perm l
 |x::l,0,_=>.refl _
 |x::l,i+1,h=>by have ih:=yr l i (by simpa using h);exact(XD.swap _ _ _).trans (ih.cons x)
theorem EZ(f:Nat->Nat){α:Type}:∀(n k:Nat) (left:List α) (out:Array α),left.length=n->(pickOrder.go f n k left out).toList.Perm (out.toList++left)
 |0,k,left,out,h=>by have:left=[]:=List.length_eq_zero_iff.mp h;subst this;unfold pickOrder.go;rw[U3]
 |n+1,k,left,out,h=>by have RO:f k % left.length<left.length:=WY _ (by lia);unfold pickOrder.go;rw[Uz RO];dsimp only;refine(EZ f n (k+1) _ _ (by rw[List.length_eraseIdx_of_lt RO];lia)).trans ?_;rw[VS,VC];refine Xg _ ?_;exact yr left _ RO
theorem Gh(f:Nat->Nat){α:Type}(xs:Array α):(pickOrder f xs).toList.Perm xs.toList:=by
 unfold pickOrder;have:=EZ f xs.size 0 xs.toList #[] (by rw[Dp])
 simpa using this
def i8(h:Heap)(a:Addr)(es:Array (Int×Value))(ep:Nat)(t:SetTable):Prop:=∃o,h.get? a=some o/\o.ExactSet/\o.data=.set es ep t
theorem i8.typeIs{s:Shared}{a:Addr}{es ep t}(x:i8 s.heap a es ep t):s.TypeIs (.ref a) "set" := let ⟨o,ho,he,_⟩:=x;⟨o,ho,he.1⟩
theorem i8.at{h h':Heap}{a:Addr}{es ep t}(x:i8 h a es ep t)(e:∀o,h.get? a=some o->h'.get? a=some o):i8 h' a es ep t:=let ⟨o,ho,r⟩:=x;⟨o,e _ ho,r⟩
noncomputable def slotAt(bt:Bool)(t:SetTable)(i:Nat):Nat:=if bt||i == 0 then 0 else t.place.getD (i-1) 0+1
def zP(h:Heap)(it a:Addr)(bt:Bool)(t:SetTable)(i n ep:Nat):Prop:=∃o,h.get? it=some o/\o.cls=.type "set_iterator" /\ o.data=.fields #[.int (slotAt bt t i:Nat) 0,.int i 0,.ref a,.int n 0,.int ep 0]
theorem zP.typeIs{s:Shared}{it a:Addr}{bt t i n ep}(x:zP s.heap it a bt t i n ep):s.TypeIs (.ref it) "set_iterator" := let ⟨o,ho,he,_⟩:=x;⟨o,ho,he⟩
theorem zP.at{h h':Heap}{it a:Addr}{bt t i n ep}(x:zP h it a bt t i n ep)(e:∀o,h.get? it=some o->h'.get? it=some o):zP h' it a bt t i n ep:=let ⟨o,ho,r⟩:=x;⟨o,e _ ho,r⟩
noncomputable def kE(w:World)(a:Addr)(es:Array (Int×Value))(ep:Nat):List Value:=
 ((if w.params.followText "set-order" then pickOrder (w.params.setOrder a ep) es else es).toList).map (·.2)
theorem Aj(w:World)(a:Addr)(es:Array (Int×Value))(ep:Nat):(kE w a es ep).Perm (es.toList.map (·.2)):=by
 unfold kE;split
 ·exact(Gh _ es).map _
 ·exact .refl _
theorem ou(w:World)(a:Addr)(es:Array (Int×Value))(ep:Nat):(kE w a es ep).length=es.size:=by rw[(Aj w a es ep).length_eq,Ud,Dp]
theorem Dw{t:SetTable}{n i:Nat}(g:Good t n)(hi:i<n):below t.place (slotAt false t i)=i:=by
 obtain⟨a,b,c⟩:=kR (slotAt false t i) g.ris;have mono:∀i k,i<k->∀v w,t.place[i]?=some v->t.place[k]?=some w->v<w:=fun i k hik v w e1 e2=>by obtain⟨q1,q2⟩:=Vf.mp e1;obtain⟨q3,q4⟩:=Vf.mp e2;have:=Vj.mp g.ris i k (by simpa using q1) (by simpa using q3) hik;simp only[V9]at this;omega
 have hz:=g.sz;cases i with
 |zero=>refine WL fun z=>?_;have h0:t.place[0]?=some t.place[0]:=Ds (by omega);have:=a 0 (by omega) _ h0;have e:slotAt false t 0=0:=rfl;rw[e]at this;omega
 |succ i=>
  have hp:t.place[i]?=some t.place[i]:=Ds (by omega);have e:slotAt false t (i+1)=t.place[i]+1:=by show t.place.getD (i+1-1) 0+1=_;rw[Vw,UB,hp];rfl
  rw[e]at a b ⊢;have h1:i<below t.place (t.place[i]+1):=Nat.not_le.mp fun z=>by have:=b i z _ hp;omega
  have h2:below t.place (t.place[i]+1)<=i+1:=Wm.mp fun z=>by have hq:t.place[i+1]?=some t.place[i+1]:=Ds (by omega);have:=a (i+1) z _ hq;have:=mono i (i+1) (Xe _) _ _ hp hq;omega
  omega
theorem Gi{t:SetTable}{n:Nat}(g:Good t n):n<=below t.place (slotAt false t n):=by
 obtain⟨a,b,c⟩:=kR (slotAt false t n) g.ris;have hz:=g.sz;cases n with
 |zero=>omega
 |succ i=>
  have hp:t.place[i]?=some t.place[i]:=Ds (by lia);have e:slotAt false t (i+1)=t.place[i]+1:=by show t.place.getD (i+1-1) 0+1=_;rw[Vw,UB,hp];rfl
  rw[e]at a b ⊢;exact Nat.not_le.mp fun z=>by
   have:=b i z _ hp
   lia
section
variable{prog:Program}{w:World}{A:Around}{E:Value->Shared->Prop}{s:Shared}{a it:Addr}{es:Array (Int×Value)}{ep i:Nat}{t:SetTable}
section
variable{Q:Bool->Shared->Prop}
theorem dH(x:i8 s.heap a es ep t)(g:Good t es.size)(hm:es.size<=t.mask){Q:(Array (Int×Value)×Nat×SetTable)->Shared->Prop}(h:Q (es,ep,t) s):wpAny (model prog w) A (setState a) Q E s:=by obtain⟨o,ho,_,hd⟩:=x;exact wpAny_setState_of ho hd (g.fits hm) h
theorem u9(h:Q (w.params.followText "set-order") s):wpAny (model prog w) A setsByText Q E s:=by unfold setsByText;exact wpAny_bind (wpAny_askSetting (wpAny_pure h))
theorem Ca(x:i8 s.heap a es ep t)(g:Good t es.size)(hm:es.size<=t.mask)(h:Q false s):wpAny (model prog w) A (setDrawn a) Q E s:=by
 unfold setDrawn;refine wpAny_bind (dH x g hm ?_);refine wpAny_bind (u9 (wpAny_pure ?_));have e:(!(w.params.followText "set-order")&&(!t.plain&&decide (es.size>1)))=false:=by rw[g.pl];simp
 have e':Q (!(w.params.followText "set-order")&&(!t.plain&&decide (es.size>1))) s:=by rw[e];exact h
 exact e'
theorem yt(x:i8 s.heap a es ep t)(g:Good t es.size)(hm:es.size<=t.mask)(hl:t.led=!w.params.followText "set-order"){Q:Option (Value×Nat)->Shared->Prop}
  (h:Q ((kE w a es ep)[i]?.map fun v=>(v,slotAt (w.params.followText "set-order") t (i+1))) s) (hi:i<=es.size):wpAny (model prog w) A (setNext a (slotAt (w.params.followText "set-order") t i) i ep) Q E s:=by
 unfold setNext;refine wpAny_bind (dH x g hm ?_);dsimp only;refine wpAny_bind (u9 ?_);cases bt:w.params.followText "set-order" with
 |true=>
  rw[bt]at h;rw[if_pos rfl];simp only[bne_self_eq_false,Uu,if_false];refine wpAny_bind (m:=setWalk a) ?_;unfold setWalk;refine wpAny_bind (dH x g hm ?_);dsimp only;refine wpAny_bind (u9 ?_);rw[bt,if_pos rfl];refine wpAny_bind (wpAny_askSetting (wpAny_pure (wpAny_pure ?_)));unfold kE at h;rw[bt,if_pos rfl,UX,Option.map_map]at h;have e:slotAt true t i=0/\slotAt true t (i+1)=0:=⟨rfl,rfl⟩
  rw[e.1];rw[e.2]at h;rw[U7]at h;exact h
 |false=>
  rw[bt]at h hl;rw[if_neg UZ];have dr:(!t.plain&&decide (es.size>1))=false:=by rw[g.pl];rfl
  show wpAny _ _ (if (!t.plain&&decide (es.size>1))=true then _ else _) _ _ _;rw[if_neg (by rw[dr];exact UZ)];show wpAny _ _ ((if (!t.led&&!es.isEmpty)=true then _ else pure ()) >>= _) _ _ _;rw[hl];simp only[Ux,Up,X5,Uu,if_false];refine wpAny_bind (wpAny_pure (wpAny_pure ?_));unfold kE at h;rw[bt]at h;simp only[Uu,if_false]at h;rw[UX]at h;rcases Xo i es.size with RO | hge
  ·rw[Dw g RO,Ds RO,Ds (by rw[g.sz];exact RO)];rw[U7,Ds RO]at h;have e:slotAt false t (i+1)=t.place[i]'(by rw[g.sz];exact RO)+1:=by
    show t.place.getD (i+1-1) 0+1=_;rw[Vw,UB,Ds (by rw[g.sz];exact RO)];rfl
   rw[e]at h;exact h
  ·have:i=es.size:=by lia
   subst this;rw[Xc (Gi g)];rw[U7,Xc (Nat.le_refl _)]at h;exact h
end
end
section
variable{prog:Program}{w:World}{A:Around}{E:Value->Shared->Prop}{s:Shared}{a it:Addr}{es:Array (Int×Value)}{ep i:Nat}{t:SetTable}
theorem Dy(x:i8 s.heap a es ep t)(g:Good t es.size)(hm:es.size<=t.mask){Q:Value->Shared->Prop}
  (hQ:Q (.ref s.heap.objs.size) { s with heap:=s.heap.push { cls:=.type "set_iterator",data:=.fields #[.int 0 0,.int 0 0,.ref a,.int es.size 0,.int ep 0] } }):wpAny (model prog w) A (pyIter (.ref a)) Q E s:=by
 obtain⟨o,ho,hex,hd⟩:=id x;refine wpAny_pyIter_slot x.typeIs F.slot_set_iter (wpAny_call_entry F.slot_set_iter x.typeIs yq ?_ (F.args_set_iter_1 _));unfold Builtin.«frozenset.__iter__» Builtin.Frozenset.slot0 slotArgs;simp only[XU,Up,Uu,↓reduceIte,bind_assoc,Us,bne_self_eq_false];unfold Builtin.Frozenset.addrOf Builtin.Frozenset.sizeOf;refine wpAny_bind (wpAny_pure ?_)
 try dsimp only
 refine wpAny_bind (wpAny_pure ?_);refine wpAny_bind (wpAny_bind (wpAny_setEntries_of ho hd (g.fits hm) (wpAny_pure ?_)));refine wpAny_bind (Ca x g hm ?_);simp only[Uu,if_false];refine wpAny_bind (wpAny_pure ?_);refine wpAny_bind (wpAny_setEpoch_of ho hd (g.fits hm) ?_);refine wpAny_bind (m:=newFields _ _) ?_;unfold newFields;refine wpAny_newObj_type (wpAny_pure ⟨_,rfl,"set_iterator",_,⟨_,UW _ rfl,rfl⟩,cU.lookup,?_⟩)
 simpa [rawInt] using hQ
theorem next_item(ZI:zP s.heap it a (w.params.followText "set-order") t i es.size ep)(x:i8 s.heap a es ep t)(g:Good t es.size)(hm:es.size<=t.mask)(hl:t.led=!w.params.followText "set-order"){v:Value}(hv:(kE w a es ep)[i]?=some v){Q:Option Value->Shared->Prop}
  (hQ:∀h',zP h' it a (w.params.followText "set-order") t (i+1) es.size ep->VX it s.heap h'->Q (some v) { s with heap:=h' }):wpAny (model prog w) A (pyNext (.ref it)) Q E s:=by
 obtain⟨o,ho,hc,hd⟩:=id ZI;obtain⟨oa,hoa,Tv,hda⟩:=id x;have hi:i<es.size:=by rw[<- ou w a es ep];exact(UT.mp hv).1
 unfold pyNext;refine wpAny_bind (wpAny_attempt (wpAny_callSpecial?_slot (name:=Str.ofString "__next__") ZI.typeIs cU
  (wpAny_call_entry cU ZI.typeIs l_ ?_ (nL _))))
 unfold Builtin.«set_iterator.__next__» slotArgs;simp only[XU,Up,Uu,↓reduceIte,bind_assoc,Us,bne_self_eq_false];refine wpAny_bind (wpAny_pure ?_)
 try dsimp only
 refine wpAny_bind (wpAny_fieldsOf ho hd ?_)
 try dsimp only
 refine wpAny_bind (wpAny_setEntries_of hoa hda (g.fits hm) ?_);simp only[bne_self_eq_false,Uu,if_false];simp only[W8];refine wpAny_bind (yt x g hm hl ?_ (Xi hi));rw[hv];dsimp only[Uv];refine wpAny_bind (wpAny_setField ho hd (by simp) ?_);have h1:=Vp (Obj.mapFields (·.setIfInBounds 0 (rawInt (slotAt (w.params.followText "set-order") t (i+1):Nat)))) ho (Obj.isFreed_of_fields (WW hd _));have d1:=WW hd (·.setIfInBounds 0 (rawInt (slotAt (w.params.followText "set-order") t (i+1):Nat)));refine wpAny_bind (wpAny_setField h1 d1 (by simp) ?_);refine wpAny_pure ⟨_,rfl,wpAny_pure (hQ _ ⟨_,Vp _ h1 (Obj.isFreed_of_fields (WW d1 _)),?_,?_⟩ ((VU ..).trans (VU ..)))⟩
 ·exact(Obj.cls_mapFields ..).trans ((Obj.cls_mapFields ..).trans hc)
 ·rw[WW d1];simp[rawInt]
theorem next_end(hh:A.handled=none)(ZI:zP s.heap it a (w.params.followText "set-order") t es.size es.size ep)(x:i8 s.heap a es ep t)(g:Good t es.size)(hm:es.size<=t.mask)(hl:t.led=!w.params.followText "set-order"){Q:Option Value->Shared->Prop}
  (hQ:∀h',Heap.ExtBut it s.heap h'->Q none { s with heap:=h' }):wpAny (model prog w) A (pyNext (.ref it)) Q E s:=by
 obtain⟨o,ho,hc,hd⟩:=id ZI;obtain⟨oa,hoa,Tv,hda⟩:=id x;unfold pyNext;refine wpAny_bind (wpAny_attempt (wpAny_callSpecial?_slot (name:=Str.ofString "__next__") ZI.typeIs cU
  (wpAny_call_entry cU ZI.typeIs l_ ?_ (nL _))))
 unfold Builtin.«set_iterator.__next__» slotArgs;simp only[XU,Up,Uu,↓reduceIte,bind_assoc,Us,bne_self_eq_false];refine wpAny_bind (wpAny_pure ?_)
 try dsimp only
 refine wpAny_bind (wpAny_fieldsOf ho hd ?_)
 try dsimp only
 refine wpAny_bind (wpAny_setEntries_of hoa hda (g.fits hm) ?_);simp only[bne_self_eq_false,Uu,if_false];simp only[W8];refine wpAny_bind (yt x g hm hl ?_ (Nat.le_refl _));rw[Vg (by rw[ou];exact Nat.le_refl _)];dsimp only[Uw];refine wpAny_bind (wpAny_setField ho hd (by simp) (wpAny_bind ?_));unfold newExc newTuple;refine wpAny_bind (wpAny_newObj_type (wpAny_bind (m:=firstArgMember _ _) (wpAny_of_eq (a:=.none) rfl (wpAny_newObj_type ?_ (by size_fits)))) (by size_fits));unfold raiseNew;refine wpAny_bind (wpAny_handled ?_);have hx:A.in1.handled=none:=hh;rw[hx];refine wpAny_bind (wpAny_pure (wpAny_throw (wpAny_bind ?_)));refine wpAny_isInstance (b:=true) (T := "StopIteration") ⟨_,UW _ rfl,rfl⟩ isSubtype_stop (wpAny_pure ?_);exact hQ _ (((VU ..).extBut.push _).push _)
theorem A5{bt:Bool}{n:Nat}(ZI:zP s.heap it a bt t i n ep){Q:Value->Shared->Prop}(h:Q (.ref it) s):wpAny (model prog w) A (pyIter (.ref it)) Q E s:=by refine wpAny_pyIter_slot ZI.typeIs nM (wpAny_call_entry nM ZI.typeIs u7 ?_ (wL _));show wpAny _ _ (ret (.ref it)) _ _ s;exact wpAny_pure ⟨_,rfl,"set_iterator",_,ZI.typeIs,cU.lookup,h⟩
theorem Gj(hh:A.handled=none)(I a:Addr)(ZN:a≠I)(g:Good t es.size)(hm:es.size<=t.mask)(hl:t.led=!w.params.followText "set-order") :
  Walks prog w A I [I,a] [I] es.size (fun i v=>(kE w a es ep)[i]?=some v) (fun i h=>zP h I a (w.params.followText "set-order") t i es.size ep/\i8 h a es ep t) where
 sub:=fun b hb=>by simp at hb;simp[hb]
 frame:=fun _ _ _ st hk=>⟨st.1.at fun o e=>hk I (by simp) o e,st.2.at fun o e=>hk a (by simp) o e⟩
 item:=fun i s Q E hi st hQ=>by
  obtain⟨v,hv⟩:∃v,(kE w a es ep)[i]?=some v:=⟨(kE w a es ep)[i]'(by rw[ou];exact hi),by simp[ou,hi]⟩
  refine next_item st.1 st.2 g hm hl hv fun h' Tw hs'=>?_;exact hQ v h' s.toks hv ⟨Tw,st.2.at fun o e=>hs'.extBut a o ZN e⟩ fun b o hb e=>hs'.extBut b o (fun h=>hb (by simp[h])) e
 done:=fun s Q E st hQ=>next_end hh st.1 st.2 g hm hl fun h' he'=>hQ h' s.toks fun b o hb e=>he' b o (fun h=>hb (by simp[h])) e
 self:=fun _ _ _ _ st hQ=>A5 st.1 hQ
theorem IP{r:Addr}{Q:Bool->Shared->Prop}(hT:s.TypeIs (.ref r) "set")(h:Q false s):wpAny (model prog w) A (Builtin.List.listLengthHint (.ref r)) Q E s:=by
 unfold Builtin.List.listLengthHint;refine wpAny_bind (wpAny_specialOf hT PySem.F.slot_set_len.lookup ?_)
 generalize hid:("set.__len__" : String)=id0
 wp_delta
 rw[show splitId id0=some ("set","__len__") from by subst hid;decide +kernel];subst hid;refine wpAny_bind (wpAny_isInstance (T := "set") (b:=true) hT (by rw[isSubtype_type];kernel_rfl) ?_);refine wpAny_ite_split (fun ZM=>absurd ZM (by decide)) (fun _=>?_);refine wpAny_ite_split (fun _=>?_) (fun ZM=>absurd (by decide +kernel) ZM);refine wpAny_bind (wpAny_typeOf hT ?_);exact wpAny_pure h
theorem LL(g:Good t es.size)(hm:es.size<=t.mask)(hl:t.led=!w.params.followText "set-order"):KdlSrc prog w "set" a a es.size (fun i v=>(kE w a es ep)[i]?=some v) (fun h=>i8 h a es ep t) where
 type:=fun _ x=>x.typeIs
 there:=fun _ x=>let ⟨_,ho,_⟩:=x;⟨Uh ho,Uh ho⟩
 keep:=fun _ _ x hk=>x.at fun o e=>hk a (.inl rfl) o e
 notList:=by decide
 notTuple:=by decide
 hint:=fun _ _ _ _ x hq=>IP x.typeIs hq
 iter:=fun _ s hh x=>⟨_,_,(fun _ _ hq=>Dy x g hm hq),Gj hh _ a (let ⟨_,ho,_⟩:=x;UM (Uh ho)) g hm hl,
  ⟨⟨_,UW _ rfl,rfl,by simp[slotAt]⟩,x.at fun o e=>Dk _ e⟩⟩
end
open PySem PySem.SetTable PySem.W PyProof.Rows
def Small(t:SetTable)(n:Nat):Prop:=(t.mask=7/\n<=4)\/(t.mask=31/\n<=18)\/(t.mask=127/\n<=76)
theorem Small.le{t:SetTable}{n:Nat}(h:Small t n):n<=t.mask:=by rcases h with⟨a,b⟩ | ⟨a,b⟩ | ⟨a,b⟩<;>lia
theorem Cb{h:Heap}{a:Addr}{es es':Array (Int×Value)}{ep:Nat}{t t':SetTable}(x:i8 h a es ep t):i8 (h.update a (WZ es' t')) a es' (ep+1) t':=by obtain⟨o,ho,hex,hd⟩:=x;have:=Vp (WZ es' t') ho (by rw[putSet_of es' t' hd];rfl);rw[putSet_of es' t' hd]at this;exact⟨_,this,hex,rfl⟩
noncomputable abbrev yu(led:Bool):Obj:={ cls:=.type "set",dict:=none,data:=.set #[] 0 (.fresh 0 0 led) }
noncomputable def bt(w:World):Bool:=w.params.followText "set-order"
theorem Dz(led:Bool):Good (.fresh 0 0 led) 0:=⟨rfl,rfl,Tu,.nil,fun j h=>(by cases h),rfl⟩
theorem IQ{prog:Program}{w:World}{A:Around}{R:Result->Shared->Prop}{I S:Addr}{fp wr:List Addr}{G:Array GenState->Array GenState->Prop}{n:Nat}{P:Nat->Value->Prop}{St:Nat->Shared->Prop}{J:Nat->Heap->Prop}(W:WalksS prog w A.in1 I fp wr G n P St)(off:S∉fp)
  (jk:∀i h h',J i h->(∀b o,b∉wr->h.get? b=some o->h'.get? b=some o)->J i h')
  (ja:∀i v (u:Shared) (E:Value->Shared->Prop) (K:Bool->Shared->Prop),i<n->P i v->J i u.heap->(∀c h' tk,u.toks<=tk->VX S u.heap h'->J (i+1) h'->K c { u with heap:=h',toks:=tk })->wpAny (model prog w) A.in1 (setAdd S v) K E u)
  (i:Nat) (s:Shared) (hi:i<=n) (st:St i s) (hJ:J i s.heap) (R1:∀s',Moved (S::wr) G s s'->J n s'.heap->R (.ok (.ret .none)) s'):codeAny (model prog w) A (.builtin "set.update.loop" ⟨[.ref S,.ref I],[]⟩) R s:=by
 have nw:S∉wr:=fun z=>off (W.sub _ z);have up:∀{x y:Shared},Moved wr G x y->Moved (S::wr) G x y:=fun m=>m.mono fun _=>Ue _
 generalize hd:n-i=d
 induction d generalizing i s with
 |zero=>cases (show i=n by lia);refine codeAny_builtin F.entry_set_update_loop (Around.under_plainId W0 _▸?_);exact wpAny_bind (W.done s _ _ st fun s' m=>wpAny_pure (R1 s' (up m) (jk _ _ _ hJ fun b o hb e=>m.heap b o hb e)))
 |succ d ih=>
  have lt:i<n:=by lia
  refine codeAny_builtin F.entry_set_update_loop (Around.under_plainId W0 _▸?_);refine wpAny_bind (W.item i s _ _ lt st fun v u hv st1 m=>?_);refine wpAny_bind (wpAny_holding (ja i v u _ _ lt hv (jk _ _ _ hJ fun b o hb e=>m.heap b o hb e) fun c h' tk ht sb hJ'=>wpAny_pure ⟨plainId_quiet W0 _,?_⟩));refine ih (i+1) _ lt (W.frame _ u _ _ st1 ht fun b hb o e=>(sb.2 b fun z=>off (z▸hb)).trans e) hJ' (fun s' m'=>R1 s' (Moved.trans W.gtrans ((up m).then_heap ht fun b o hb e=>?_) m')) (by lia);exact(sb.2 b fun z=>hb (z▸Uj)).trans e
section
variable{prog:Program}{w:World}{A:Around}{E:Value->Shared->Prop}{s:Shared}
theorem IS(x:Value){K:Value->Shared->Prop}(h:K (.ref s.heap.objs.size) { s with heap:=s.heap.push (yu (!bt w)) }):codeAny (model prog w) A (.call (.builtin "set.__new__") ⟨[.type "set",x],[]⟩) (wants K E) s:=by
 refine codeAny_call_builtin PySem.F.plain_set_new PySem.F.entry_set_new (wpAny_of_eq (PySem.F.newCall_set_1 x) ?_);have sub:=sub_set_self;cases s;unfold Builtin.«set.__new__» Builtin.Frozenset.newClass
 wp_walk
 exact wpAny_askSetting (wpAny_pure (wpAny_bind (wpAny_alloc (wpAny_pure (wpAny_pure h)))))
set_option maxHeartbeats 3200000 in
theorem Gk{x:Value}{K:Value->Shared->Prop} (body:∀led,led=(!bt w)->wpAny (model prog w) A.in1.in1 (Builtin.«set.__init__» ⟨[.ref s.heap.objs.size,x],[]⟩)
   (fun f u=>∃h' tk,f=.done (.ret .none)/\u={ s with heap:=h',toks:=tk }/\K (.ref s.heap.objs.size) { s with heap:=h',toks:=tk }) E { s with heap:=s.heap.push (yu led) }):wpAny (model prog w) A (call (.type "set") [x]) K E s:=by
 have ft:=PySem.F.called_set;obtain⟨c,tl,e1⟩:=ft.mro;have e2:=ft.made;have e3:=ft.sub;have e4:=ft.notType;have e5:=ft.canCreate;have e6:=PySem.F.typeCall_set_1 x;refine wpAny_call (codeAny_of_tree (wpAny_pure ⟨WS _ (by decide +kernel),codeAny_builtin PySem.F.entry_type_call (Around.under_plain (weight_type_call_type "set" [x] []) rfl▸?_)⟩))
 repeat (any_goals (first | assumption | wp_step))
 generalize LM:(!bt w)=led at body
 refine codeAny_mono (IS x (E:=E) (K:=fun y u=>y=.ref s.heap.objs.size/\u={ s with heap:=s.heap.push (yu led) }) ⟨rfl,by rw[LM]⟩) fun q u hq=>?_
 match q,hq with
 |.error _,hq=>exact hq
 |.ok (.ret y),⟨h1,h2⟩=>
  subst h1 h2;have ty:Shared.TypeIs { s with heap:=s.heap.push (yu led) } (.ref s.heap.objs.size) "set" := ⟨_,UW _ rfl,rfl⟩
  have e7:=ft.init.lookup;have e8:=ft.init.bind (.ref s.heap.objs.size)
  repeat (any_goals (first | assumption | wp_step))
  refine codeAny_mono (codeAny_call_builtin (R:=wants (fun z u=>z=.none/\∃h' tk,u={ s with heap:=h',toks:=tk }/\K (.ref s.heap.objs.size) { s with heap:=h',toks:=tk }) E) ft.init.plain PySem.F.entry_set_init (check_set_init_1 ty ?_)) fun q' u' hq'=>?_
  ·refine wpAny_mono (body led rfl) (fun f u hf=>?_) fun _ _ z=>z;obtain⟨h',tk,rfl,rfl,hk⟩:=hf;exact⟨rfl,h',tk,rfl,hk⟩
  ·match q',hq' with
   |.error _,hq'=>exact hq'
   |.ok (.ret z),⟨h1,h',tk,h2,hk⟩=>
    subst h1 h2
    repeat (any_goals (first | assumption | wp_step))
end
section
variable{t:SetTable}{h:Int}{mask:Nat}{n:Nat}{k0 i p:Nat}{j:Nat}{α β:Type}{K:Nat}
noncomputable def adv(mask:Nat)(p:Probe):Probe:=
 if p.more>0 then { p with j:=p.j+1,more:=p.more-1 } else { p with j:=(leap mask p.i p.perturb).1,more:=runEnd mask (leap mask p.i p.perturb).1-(leap mask p.i p.perturb).1,i:=(leap mask p.i p.perturb).1,perturb:=(leap mask p.i p.perturb).2 }
theorem O3(t:SetTable)(p:Probe):t.advance p=adv t.mask p:=rfl
noncomputable def pth(mask:Nat)(h:Int):Nat->Probe
 |0=>{ j:=bits h % (mask+1),more:=runEnd mask (bits h % (mask+1))-bits h % (mask+1),i:=bits h % (mask+1),perturb:=bits h,dummy:=none }
 |k+1=>adv mask (pth mask h k)
theorem Ak(mask:Nat)(h:Int):∀k,(pth mask h k).dummy=none
 |0=>rfl
 |k+1=>by show (adv mask (pth mask h k)).dummy=none;unfold adv;split<;>exact Ak mask h k
theorem Cc(g:Good t n){q:Met}:∀(f k:Nat),probe.go t (fun _=>h+1) h f (pth t.mask h k)=some q->∃K,k<=K/\K<k+f/\(pth t.mask h K).j∉t.place.toList/\∀l,k<=l->l<K->(pth t.mask h l).j∈t.place.toList
 |0,k,e=>by unfold probe.go at e;cases e
 |f+1,k,e=>by
  rcases g.slot (pth t.mask h k).j with⟨q1,q2⟩ | ⟨q1,i,q2⟩
  ·exact⟨k,Nat.le_refl _,by lia,q1,fun l h1 h2=>by lia⟩
  ·rw[EX q2,O3]at e;obtain⟨K,h1,h2,h3,h4⟩:=Cc g f (k+1) e;refine⟨K,by lia,by lia,h3,fun l hl hK=>?_⟩;rcases VN hl with z | z
   ·rw[<- z];exact q1
   ·exact h4 l z hK
theorem Cd(g:Good t n)(hn:n<=t.mask)(h:Int):∃K,K<10*turns t.mask/\(pth t.mask h K).j∉t.place.toList/\∀l,l<K->(pth t.mask h l).j∈t.place.toList:=by obtain⟨j0,h0,n0⟩:=room (mask:=t.mask) (l:=t.place.toList) (by rw[Dp,g.sz];exact hn);have hi:bits h % (t.mask+1)<=t.mask:=V7 (WY _ (Ww _));obtain⟨m,hm,e⟩:=ZI g.cv hi (EV h) h0;obtain⟨j,a,_,_⟩:=B_ g (h:=h) (t.mask+14) (10*turns t.mask) (bits h % (t.mask+1)) (bits h) hi (by unfold turns;lia) ⟨m,hm,by rw[e];exact n0⟩;obtain⟨K,h1,h2,h3,h4⟩:=Cc g (10*turns t.mask) 0 a;exact⟨K,by lia,h3,fun l hl=>h4 l (U6 _) hl⟩
theorem A6(g:Good t n)(h:j∈t.place.toList):t.slot j=.live (below t.place j)/\t.place[below t.place j]?=some j:=by have e:=(u6 g.ris).mpr h;refine⟨?_,e⟩;unfold SetTable.slot;dsimp only;rw[if_pos (by rw[e];exact beq_self_eq_true _)]
theorem wA(g:Good t n)(ha:Nat->Int)(hK:(pth t.mask h K).j∉t.place.toList)(hl:∀l,l<K->(pth t.mask h l).j∈t.place.toList):∀(f k:Nat),k<=K->K<k+f ->
  (probe.go t ha h f (pth t.mask h k)=some (.empty (pth t.mask h K).j none)/\∀l,k<=l->l<K->ha (below t.place (pth t.mask h l).j)≠h) \/
  ∃m,k<=m/\m<K/\probe.go t ha h f (pth t.mask h k)=some (.candidate (pth t.mask h m).j (below t.place (pth t.mask h m).j) (pth t.mask h (m+1)))/\ha (below t.place (pth t.mask h m).j)=h/\∀l,k<=l->l<m->ha (below t.place (pth t.mask h l).j)≠h
 |0,k,h1,h2=>by lia
 |f+1,k,h1,h2=>by
  rcases VN h1 with z | z
  ·subst z;left;refine⟨?_,fun l a b=>by lia⟩;rcases g.slot (pth t.mask h k).j with⟨_,q2⟩ | ⟨q1,_⟩
   ·conv=>lhs;unfold probe.go
    rw[q2];dsimp only;rw[Ak]
   ·exact absurd q1 hK
  ·obtain⟨q1,q2⟩:=A6 g (hl k z);by_cases e:ha (below t.place (pth t.mask h k).j)=h
   ·right;refine⟨k,Nat.le_refl _,z,?_,e,fun l a b=>by lia⟩
    conv=>lhs;unfold probe.go
    rw[q1];dsimp only;rw[if_pos (by simpa using e)];rfl
   ·have step:probe.go t ha h (f+1) (pth t.mask h k)=probe.go t ha h f (pth t.mask h (k+1)):=by
     conv=>lhs;unfold probe.go
     rw[q1];dsimp only;rw[if_neg (by simpa using e)];rfl
    rw[step];rcases wA g ha hK hl f (k+1) z (by lia) with⟨r1,r2⟩ | ⟨m,r1,r2,r3,r4,r5⟩
    ·refine .inl ⟨r1,fun l a b=>?_⟩;rcases VN a with y | y
     ·rw[<- y];exact e
     ·exact r2 l y b
    ·refine .inr ⟨m,by lia,r2,r3,r4,fun l a b=>?_⟩;rcases VN a with y | y
     ·rw[<- y];exact e
     ·exact r5 l y b
def Rch(t:SetTable)(es:Array (Int×Value)):Prop:=∀(e:Int×Value) (j:Nat),(e,j)∈es.toList.zip t.place.toList->∃k,(pth t.mask e.1 k).j=j/\∀l,l<k->(pth t.mask e.1 l).j∈t.place.toList
theorem O4{xs:Array α}{ys:Array β}{i:Nat}{x:α}{y:β}(h1:xs[i]?=some x)(h2:ys[i]?=some y):(x,y)∈xs.toList.zip ys.toList:=by refine List.mem_iff_getElem?.mpr ⟨i,?_⟩;rw[List.getElem?_zip_eq_some];exact⟨by simpa using h1,by simpa using h2⟩
theorem Rch.ahead{es:Array (Int×Value)}(r:Rch t es){K j:Nat}{x:Value}(hK:(pth t.mask h K).j∉t.place.toList)(hz:((h,x),j)∈es.toList.zip t.place.toList):∃k,k<K/\(pth t.mask h k).j=j:=by
 obtain⟨k,h1,h2⟩:=r (h,x) j hz;refine⟨k,?_,h1⟩;rcases Nat.lt_trichotomy k K with z | z | z
 ·exact z
 ·subst z;have h1:(pth t.mask h k).j=j:=h1;exact absurd (h1▸(Xk hz).2) hK
 ·exact absurd (h2 K z) hK
theorem Rch.fresh(led:Bool):Rch (.fresh 0 0 led) #[]:=fun e j h=>by cases h
theorem DB(xs:List α)(ys:List β)(p:Nat)(x:α)(y:β)(hl:xs.length=ys.length)(u:α)(v:β)(h:(u,v)∈(xs.take p++x::xs.drop p).zip (ys.take p++y::ys.drop p)):(u,v)=(x,y)\/(u,v)∈xs.zip ys:=by
 rw[List.zip_append (by rw[Vn,Vn,hl]),WO]at h;rcases Uy.mp h with h | h
 ·right;have h':(u,v)∈(xs.zip ys).take p:=by
   unfold List.zip at h ⊢;rw[List.take_zipWith];exact h
  exact Vz h'
 ·rcases Ui.mp h with h | h
  ·exact .inl h
  ·right;have h':(u,v)∈(xs.zip ys).drop p:=by
    unfold List.zip at h ⊢;rw[List.drop_zipWith];exact h
   exact VP h'
theorem Rch.put{es:Array (Int×Value)}(r:Rch t es)(g:Good t es.size){x:Value}(hl:∀l,l<K->(pth t.mask h l).j∈t.place.toList) :
  Rch (t.put (pth t.mask h K).j).1 (insertAt es (t.put (pth t.mask h K).j).2 (h,x)):=by
 have ep:(t.put (pth t.mask h K).j).1.place.toList=t.place.toList.take (below t.place (pth t.mask h K).j)++(pth t.mask h K).j::t.place.toList.drop (below t.place (pth t.mask h K).j):=kr _ _ _;have old:∀y∈t.place.toList,y∈(t.put (pth t.mask h K).j).1.place.toList:=fun y hy=>by
  rw[ep];have hy':y∈t.place.toList.take (below t.place (pth t.mask h K).j)++t.place.toList.drop (below t.place (pth t.mask h K).j):=by rw[Vu];exact hy
  rcases Uy.mp hy' with z | z
  ·exact Va _ z
  ·exact UD _ (Ue _ z)
 intro e j hz;have hm:(t.put (pth t.mask h K).j).1.mask=t.mask:=rfl;rw[hm];rw[ep,kr]at hz;rcases DB es.toList t.place.toList _ (h,x) (pth t.mask h K).j (by rw[Dp,Dp,g.sz]) e j hz with z | z
 ·injection z with z1 z2
  subst z1 z2;exact⟨K,rfl,fun l hlK=>old _ (hl l hlK)⟩
 ·obtain⟨k,h1,h2⟩:=r e j z;exact⟨k,h1,fun l hlk=>old _ (h2 l hlk)⟩
theorem tT(e:pth mask h k0=Ai mask i p):∀m,m<=runEnd mask i-i->pth mask h (k0+m)={ j:=i+m,more:=runEnd mask i-i-m,i:=i,perturb:=p,dummy:=none }
 |0,_=>e
 |m+1,hm=>by
  show adv mask (pth mask h (k0+m))=_;rw[tT e m (by lia)];unfold adv;dsimp only;rw[if_pos (by lia)]
  congr 1
theorem IT(e:pth mask h k0=Ai mask i p):pth mask h (k0+(runEnd mask i-i)+1)=Ai mask (leap mask i p).1 (leap mask i p).2:=by show adv mask (pth mask h (k0+(runEnd mask i-i)))=_;rw[tT e _ (Nat.le_refl _)];unfold adv;dsimp only;rw[if_neg (by lia)];rfl
theorem taken{owner:Array (Option Nat)}(hj:j<owner.size)(h:¬(owner.getD j (some 0)).isNone=true):∃v,owner[j]?=some (some v):=by
 rw[UB,Ds hj,WE]at h;rw[Ds hj];cases q:owner[j] with
 |none=>rw[q]at h;exact absurd rfl h
 |some v=>exact⟨v,rfl⟩
theorem Ce{owner:Array (Option Nat)}(hs:owner.size=mask+1):∀(fuel i p k0 j:Nat),pth mask h k0=Ai mask i p->i<=mask->layClean.free mask owner fuel i p=some j->∃K,k0<=K/\(pth mask h K).j=j/\j<=mask/\owner[j]?=some none/\∀l,k0<=l->l<K->∃v,owner[(pth mask h l).j]?=some (some v)
 |0,i,p,k0,j,_,_,e=>by unfold layClean.free at e;cases e
 |fuel+1,i,p,k0,j,hp,hi,e=>by
  have hr:i<=runEnd mask i/\runEnd mask i<=mask:=by unfold runEnd;split<;>lia
  unfold layClean.free at e;cases hf:(UG (runEnd mask i+1-i)).find? fun k=>(owner.getD (i+k) (some 0)).isNone with
  |some k=>
   rw[hf]at e;dsimp only at e;cases e;obtain⟨f1,f2,f3⟩:=List.find?_range_eq_some.mp hf;have f2:=U4.mp f2;refine⟨k0+k,by lia,by rw[tT hp k (by lia)],by lia,?_,fun l h1 h2=>?_⟩
   ·have RO:i+k<owner.size:=by lia
    rw[UB,Ds RO,WE]at f1;rw[Ds RO];exact congrArg some (Option.isNone_iff_eq_none.mp f1)
   ·have el:l=k0+(l-k0):=by lia
    rw[el,tT hp (l-k0) (by lia)];refine taken (by show i+(l-k0)<_;lia) fun z=>?_;have z':(owner.getD (i+(l-k0)) (some 0)).isNone=true:=z;have t:=f3 (l-k0) (by lia);rw[z']at t;cases t
  |none=>
   rw[hf]at e;dsimp only at e;have all:=List.find?_eq_none.mp hf;obtain⟨K,q1,q2,q3,q4,q5⟩:=Ce hs fuel (leap mask i p).1 (leap mask i p).2 _ j (IT hp) (B9 mask 1 (i,p) hi) e;refine⟨K,by lia,q2,q3,q4,fun l h1 h2=>?_⟩;rcases Xo l (k0+(runEnd mask i-i)+1) with z | z
   ·have el:l=k0+(l-k0):=by lia
    rw[el,tT hp (l-k0) (by lia)];exact taken (by show i+(l-k0)<_;lia) (all (l-k0) (U4.mpr (by lia)))
   ·exact q5 l z h2
def ROw(mask:Nat)(H:List Int)(owner:Array (Option Nat)):Prop:=∀j idx:Nat,owner[j]?=some (some idx)->∃h k,H[idx]?=some h/\(pth mask h k).j=j/\∀l,l<k->∃v,owner[(pth mask h l).j]?=some (some v)
theorem Al{mask:Nat}:∀hs:List Int,hs.foldl (fun Mc h=>do
   let (owner,k) <- Mc
   let j <- layClean.free mask owner (turns mask) (bits h % (mask+1)) (bits h)
   pure (owner.setIfInBounds j (some k),k+1)) (none:Option (Array (Option Nat)×Nat))=none
 |[]=>rfl
 |h::hs=>Al hs
theorem E1{H:List Int}:∀(hs:List Int) (owner owner':Array (Option Nat)) (k m:Nat),H.drop k=hs->owner.size=mask+1->ROw mask H owner->hs.foldl (fun Mc h=>do
   let (owner,k) <- Mc
   let j <- layClean.free mask owner (turns mask) (bits h % (mask+1)) (bits h)
   pure (owner.setIfInBounds j (some k),k+1)) (some (owner,k))=some (owner',m)->ROw mask H owner'
 |[],owner,owner',k,m,_,_,r,e=>by cases e;exact r
 |h::hs,owner,owner',k,m,hd,sz,r,e=>by
  rw[Wj]at e;cases q:layClean.free mask owner (turns mask) (bits h % (mask+1)) (bits h) with
  |none=>
   have:(do
    let (owner,k) <- some (owner,k)
    let j <- layClean.free mask owner (turns mask) (bits h % (mask+1)) (bits h)
    pure (owner.setIfInBounds j (some k),k+1):Option (Array (Option Nat)×Nat))=none:=by
    show (layClean.free mask owner (turns mask) (bits h % (mask+1)) (bits h)).bind _=none;rw[q];rfl
   rw[this,Al]at e;cases e
  |some j=>
   have this:(do
    let (owner,k) <- some (owner,k)
    let j <- layClean.free mask owner (turns mask) (bits h % (mask+1)) (bits h)
    pure (owner.setIfInBounds j (some k),k+1):Option (Array (Option Nat)×Nat))=some (owner.setIfInBounds j (some k),k+1):=by
    show (layClean.free mask owner (turns mask) (bits h % (mask+1)) (bits h)).bind _=_;rw[q];rfl
   rw[this]at e;have hk:H[k]?=some h:=by
    have:=congrArg (fun l=>l[0]?) hd
    simpa using this
   obtain⟨K,q1,q2,q3,q4,q5⟩:=Ce (h:=h) sz (turns mask) _ _ 0 j rfl (V7 (WY _ (Ww _))) q;have jl:j<owner.size:=by lia
   have keep:∀x v,owner[x]?=some (some v)->(owner.setIfInBounds j (some k))[x]?=some (some v):=fun x v hx=>by
    rw[Wx];split
    ·rename_i z;rw[<- z,q4]at hx;cases hx
    ·exact hx
   refine E1 hs _ owner' (k+1) m ?_ (by rw[Array.size_setIfInBounds];exact sz) (fun x idx hx=>?_) e
   ·rw[<- X7,Nat.add_comm]at *
    first | (rw[hd];rfl) | (have:=congrArg (List.drop 1) hd;simpa using this)
   ·rw[Wx]at hx;split at hx
    ·rename_i z;subst z;cases hx;refine⟨h,K,hk,q2,fun l hl=>?_⟩;obtain⟨v,hv⟩:=q5 l (U6 _) hl;exact⟨v,keep _ _ hv⟩
    ·obtain⟨h',k',r1,r2,r3⟩:=r x idx hx;exact⟨h',k',r1,r2,fun l hl=>by obtain⟨v,hv⟩:=r3 l hl;exact⟨v,keep _ _ hv⟩⟩
theorem Cf{es:Array (Int×Value)}{e:Int×Value}:∀(L:List (Nat×Nat)),(∀q∈L,∃e,es[q.2]?=some e)->(e,j)∈((L.map (·.2)).filterMap (es[·]?)).zip (L.map (·.1))->∃idx,(j,idx)∈L/\es[idx]?=some e
 |[],_,h=>by cases h
 |q::L,ok,h=>by
  obtain⟨e0,h0⟩:=ok q Uj;rw[Uc,Uc,Vi,h0]at h;rcases Ui.mp h with z | z
  ·injection z with z1 z2
   subst z1 z2;exact⟨q.2,Uj,h0⟩
  ·obtain⟨idx,h1,h2⟩:=Cf L (fun q hq=>ok q (Ue _ hq)) z;exact⟨idx,Ue _ h1,h2⟩
theorem Gm{es:Array (Int×Value)}{wanted:Nat}(c:Cov (sizeAbove wanted-1))(hn:es.size<=sizeAbove wanted-1)(pl:t.plain=true) :
  ∃t' order,t.relaid (es.map (·.1)) wanted=some (t',order)/\(order.filterMap (es[·]?)).size=es.size/\Good t' es.size/\t'.mask=sizeAbove wanted-1/\t'.led=t.led/\(order.filterMap (es[·]?)).toList.Perm es.toList/\Rch t' (order.filterMap (es[·]?)):=by
 obtain⟨t',order,q1,q2,q3,q4,q5,q6,q7,q8,q9⟩:=LK (finger:=t.finger) (moves:=t.movedTo (sizeAbove wanted-1)) (led:=t.led) (plain:=t.plain) (hashes:=es.map (·.1)) c (by rw[Xv];exact hn);rw[Xv]at q8 q9;have pe:(order.filterMap (es[·]?)).toList.Perm es.toList:=by
  rw[Array.toList_filterMap];refine(q9.filterMap _).trans (.of_eq ?_);have:∀l:List (Int×Value),(UG l.length).filterMap (fun i=>l[i]?)=l:=fun l=>by
   induction l with
   |nil=>rfl
   |cons x l ih=>
    rw[Ub,List.range_succ_eq_map,Vi];show x::_=_;rw[List.filterMap_map]
    congr 1
  have h2:=this es.toList
  simpa using h2
 refine⟨t',order,q1,by rw[<- Dp,pe.length_eq,Dp],⟨q5,q4.trans pl,by rw[q2];exact c,q6,by rw[q2];exact q7,q8⟩,q2,q3,pe,?_⟩;obtain ⟨owner,f1,f2,f3⟩:=yp c (es.map (·.1)).toList (Xn (sizeAbove wanted-1+1) none) 0 (by simp) (by
  have:lay (sizeAbove wanted-1) (Xn (sizeAbove wanted-1+1) none)=[]:=by unfold lay;rw[List.filterMap_eq_nil_iff];intro j hj;unfold ow;rw[UB,WV];split<;>rfl
  rw[this];exact .refl _) (by rw[Dp,Xv];lia)
 have ro:ROw (sizeAbove wanted-1) (es.map (·.1)).toList owner:=E1 (H:=(es.map (·.1)).toList) _ _ _ 0 _ rfl (by simp) (fun j idx h=>by rw[WV]at h;split at h<;>cases h) f1
 have lc:layClean (sizeAbove wanted-1) (es.map (·.1))=some owner:=by unfold layClean;rw[<- Array.foldl_toList,f1];rfl
 unfold laid at q1;rw[lc]at q1;cases q1;intro e j hz;have Ry:∀x v,owner[x]?=some (some v)->x∈((UG (sizeAbove wanted-1+1)).filterMap fun j=>(owner.getD j none).map (j,·)).map (·.1):=fun x v hx=>by have RO:=(Vf.mp hx).1;refine U0.mpr ⟨(x,v),VY.mpr ⟨x,U4.mpr (by lia),?_⟩,rfl⟩;rw[UB,hx];rfl
 have own:∀q∈(UG (sizeAbove wanted-1+1)).filterMap fun j=>(owner.getD j none).map (j,·),owner[q.1]?=some (some q.2):=fun q hq=>by
  obtain⟨x,hx,ex⟩:=VY.mp hq;have RO:x<owner.size:=by have:=U4.mp hx;lia
  rw[UB,Ds RO,WE]at ex;cases y:owner[x] with
  |none=>rw[y]at ex;cases ex
  |some v=>rw[y]at ex;cases ex;show owner[x]?=some (some v);rw[Ds RO,y]
 have hash:∀idx h,(es.map (·.1)).toList[idx]?=some h->∃x,es[idx]?=some (h,x):=fun idx h hx=>by
  rw[U7,Array.getElem?_map]at hx;cases y:es[idx]? with
  |none=>rw[y]at hx;cases hx
  |some p=>rw[y]at hx;cases hx;exact⟨p.2,y⟩
 rw[Array.toList_filterMap]at hz;obtain ⟨idx,g1,g2⟩:=Cf _ (fun q hq=>by obtain⟨h,k,r1,_⟩:=ro q.1 q.2 (own q hq);obtain⟨x,hx⟩:=hash _ _ r1;exact⟨_,hx⟩) hz
 obtain⟨h,k,r1,r2,r3⟩:=ro j idx (own _ g1);obtain⟨x,hx⟩:=hash _ _ r1;rw[g2]at hx;cases hx;refine⟨k,r2,fun l hl=>?_⟩;obtain⟨v,hv⟩:=r3 l hl;exact Ry _ v hv
end
section
variable{prog:Program}{w:World}{A:Around}{E:Value->Shared->Prop}{s:Shared}{ks:List Int}{a:Addr}
section
variable{Q:Bool->Shared->Prop}
theorem ints_in{items:Array Value}:∀{ks:List Int} {l:List Value},ItemsAre (intKind prog w) ks l->∀v∈l,∃n t,v=WM n t:=fun {ks l} h=>by
 induction h with
 |nil=>intro v hv;cases hv
 |cons h1 _ ih=>
  intro v hv;rcases Ui.mp hv with rfl | hv
  ·obtain⟨t,e⟩:=Value.isInt_shape h1;exact⟨_,t,e⟩
  ·exact ih v hv
theorem Cg(hk:IsTupleKey (intKind prog w) s.heap ks a)(h:Q false s):wpAny (model prog w) A (ofAClassStatement 8 (.ref a)) Q E s:=by
 have hT:=hk.typeIs;obtain⟨o,items,n,ho,_,hd,hi⟩:=hk;unfold ofAClassStatement;refine wpAny_bind (wpAny_typeOf hT ?_);dsimp only;refine wpAny_bind (wpAny_pure ?_);simp only[Up,Uu,if_false];refine wpAny_bind (wpAny_seqItems ho hd (wpAny_bind ?_));show wpAny _ _ (forIn items _ _) _ _ s;rw[<- Array.forIn_toList];refine wpAny_forIn_list _ (fun L8 r s'=>r.1=none/\s'=s/\∀v∈L8,∃n t,v=WM n t) _ ?_ ?_ _ _ ⟨rfl,rfl,ints_in (items:=items) hi⟩
 ·rintro v L8 r s' ⟨hr,rfl,hall⟩;obtain⟨m,t,rfl⟩:=hall v Uj;refine wpAny_bind (wpAny_pure (a:=false) (wpAny_pure ⟨rfl,rfl,fun u hu=>hall u (Ue _ hu)⟩))
 ·rintro⟨r1,r2⟩ s' ⟨hr,rfl,_⟩;simp only at hr;subst hr;exact wpAny_pure h
theorem IU(hk:IsTupleKey (intKind prog w) s.heap ks a)(h:Q true s):wpAny (model prog w) A (hashByValue 8 (.ref a)) Q E s:=by
 have hT:=hk.typeIs;obtain⟨o,items,n,ho,_,hd,hi⟩:=hk;unfold hashByValue;refine wpAny_bind (wpAny_specialOf hT PySem.F.slot_tuple_hash.lookup ?_);dsimp only;refine wpAny_bind (wpAny_seqItems ho hd (wpAny_bind ?_));show wpAny _ _ (forIn items _ _) _ _ s;rw[<- Array.forIn_toList];refine wpAny_forIn_list _ (fun L8 r s'=>r.1=none/\s'=s/\∀v∈L8,∃n t,v=WM n t) _ ?_ ?_ _ _ ⟨rfl,rfl,ints_in (items:=items) hi⟩
 ·rintro v L8 r s' ⟨hr,rfl,hall⟩;obtain⟨m,t,rfl⟩:=hall v Uj;refine wpAny_bind (wpAny_pure (a:=true) (wpAny_pure ⟨rfl,rfl,fun u hu=>hall u (Ue _ hu)⟩))
 ·rintro⟨r1,r2⟩ s' ⟨hr,rfl,_⟩;simp only at hr;subst hr;exact wpAny_pure h
theorem O5{stored:List Value}(hk:IsTupleKey (intKind prog w) s.heap ks a)(hs:∀v∈stored,∃ks b,v=.ref b/\IsTupleKey (intKind prog w) s.heap ks b)(h:Q false s):wpAny (model prog w) A (searchCouldBeSeen (.ref a) stored) Q E s:=by
 unfold searchCouldBeSeen;refine wpAny_bind ?_;refine wpAny_forIn_list _ (fun L8 r s'=>r.1=none/\s'=s/\∀v∈L8,∃ks b,v=.ref b/\IsTupleKey (intKind prog w) s.heap ks b) _ ?_ ?_ _ _ ⟨rfl,rfl,hs⟩
 ·rintro v L8 r s' ⟨hr,rfl,hall⟩;obtain⟨ks',b,rfl,hb⟩:=hall v Uj;have next:∀u∈L8,∃ks b,u=.ref b/\IsTupleKey (intKind prog w) s'.heap ks b:=fun u hu=>hall u (Ue _ hu)
  dsimp only;by_cases e:a=b
  ·subst e;simp only[beq_self_eq_true,Bool.true_or,if_true];exact wpAny_pure ⟨rfl,rfl,next⟩
  ·have e':(a == b)=false:=beq_eq_false_iff_ne.mpr e;simp only[e',carriedByValue,X5,Bool.or_false,Uu,if_false];refine wpAny_bind (wpAny_eqIsQuiet_tuple hk ?_);simp only[Up,Uu,if_false];refine wpAny_bind (wpAny_eqIsQuiet_tuple hb ?_);simp only[Up,Uu,if_false];refine wpAny_bind (Cg hk ?_);simp only[Uu,if_false];refine wpAny_bind (Cg hb ?_);simp only[Uu,if_false];exact wpAny_pure ⟨rfl,rfl,next⟩
 ·rintro⟨r1,r2⟩ s' ⟨hr,rfl,_⟩;simp only at hr;subst hr;exact wpAny_pure h
end
end
def Rz(prog:Program)(w:World)(h:Heap)(es:Array (Int×Value)):Prop:=∀e∈es.toList,∃ks b,e=(tupleKeyHash (intKind prog w) ks,UU b)/\IsTupleKey (intKind prog w) h ks b
section
variable{prog:Program}{w:World}{A:Around}{E:Value->Shared->Prop}{s:Shared}{ks:List Int}{a b:Addr}{es:Array (Int×Value)}{ep:Nat}{t:SetTable}
theorem E2{Q:SetFound->Shared->Prop}{K:Nat}{h:Int}(hh:tupleKeyHash (intKind prog w) ks=h)(hu:A.units<cLine)(x1:i8 s.heap a es ep t)(g:Good t es.size)(hm:es.size<=t.mask)(odd:t.mask % 2=1)(hE:Rz prog w s.heap es)(hx:IsTupleKey (intKind prog w) s.heap ks b)
  (hK:(pth t.mask h K).j∉t.place.toList) (hl:∀l,l<K->(pth t.mask h l).j∈t.place.toList) (hT:K<10*turns t.mask)
  (there:(∃c,(h,UU c)∈es.toList/\IsTupleKey (intKind prog w) s.heap ks c)->Q (.there none) s)
  (free:(∀l c ks',l<K->es[below t.place (pth t.mask h l).j]?=some (h,UU c)->IsTupleKey (intKind prog w) s.heap ks' c->ks'≠ks)->Q (.free (pth t.mask h K).j false) s) :
  ∀(fuel k:Nat) (stand:Option Probe),stand.getD (t.probeStart h)=pth t.mask h k->k<=K->K<k+fuel ->
   (∀l c ks',l<k->es[below t.place (pth t.mask h l).j]?=some (h,UU c)->IsTupleKey (intKind prog w) s.heap ks' c->ks'≠ks) ->
   wpAny (model prog w) A (setSearchFrom a (.ref b) h true fuel stand) Q E s
 |0,k,stand,_,h1,h2,_=>by lia
 |fuel+1,k,stand,hs,h1,h2,no=>by
  unfold setSearchFrom;refine wpAny_bind (dH x1 g hm ?_);dsimp only;have gw:t.gaveWay=false:=by unfold SetTable.gaveWay;rw[odd];rfl
  rw[gw];simp only[Uu,if_false];rw[hs];rcases wA g (fun i=>(es[i]?.map (·.1)).getD 0) hK hl (10*turns t.mask) k h1 (by lia) with⟨r1,r2⟩ | ⟨m,r1,r2,r3,r4,r5⟩
  ·have r1':t.probe (fun i=>(es[i]?.map (·.1)).getD 0) h (pth t.mask h k)=some (.empty (pth t.mask h K).j none):=r1
   erw [r1']
   dsimp only;refine wpAny_pure (free fun l c ks' lK hc hk=>?_);rcases Xo l k with z | z
   ·exact no l c ks' z hc hk
   ·have:=r2 l z lK;rw[hc]at this;exact absurd rfl this
  ·have r3':t.probe (fun i=>(es[i]?.map (·.1)).getD 0) h (pth t.mask h k)=some (.candidate (pth t.mask h m).j (below t.place (pth t.mask h m).j) (pth t.mask h (m+1))):=r3
   erw [r3']
   dsimp only;obtain⟨lv,lp⟩:=A6 g (hl m r2);have ilt:below t.place (pth t.mask h m).j<es.size:=by have:=(Vf.mp lp).1;rw[g.sz]at this;exact this
   have ei:es[below t.place (pth t.mask h m).j]?=some es[below t.place (pth t.mask h m).j]:=Ds ilt;obtain⟨kc,c,ec,hc⟩:=hE _ (WU ilt);rw[ec]at ei;rw[ei]at r4;have r4:tupleKeyHash (intKind prog w) kc=h:=r4;rw[r4]at ei;have quiet:∀v∈((es.filter (·.1 == h)).toList.map (·.2)),∃ks b,v=UU b/\IsTupleKey (intKind prog w) s.heap ks b:=fun v hv=>by obtain⟨e,he,rfl⟩:=U0.mp hv;rw[Array.toList_filter]at he;obtain⟨k',b',e1,e2⟩:=hE e (WJ.mp he).1;exact⟨k',b',by rw[e1],e2⟩
   have main:wpAny (model prog w) A (do
     let some (_,y):=es[below t.place (pth t.mask h m).j]? | unsupported "internal:set-entry"
     let equal <- holding [y] (eqBool y (.ref b))
     let (es',_,t') <- setState a
     if true&&equal then return .there none
     let some same:=t'.sameMemory t.moves t.mask | unsupported "set.changed-during-lookup:is-the-new-block-at-the-old-address"
     let RA <- match (if same then t'.slot (pth t.mask h m).j else .empty) with
      |.live i'=>match es'[i']? with
       |some (_,y')=>do pure (if <- isSame y' y then some i' else none)
       |none=>pure none
      |_=>pure none
     match RA with
     |none=>rule "set.search.anew";setSearchFrom a (.ref b) h true fuel none
     |some i'=>if equal then return .there (some i') else setSearchFrom a (.ref b) h true fuel (some (pth t.mask h (m+1)))) Q E s:=by
    rw[ei];dsimp only;refine wpAny_bind (wpAny_holding ((tupleKind (intKind prog w)).eqBool hu hc hx ?_));refine wpAny_bind (dH x1 g hm ?_);dsimp only;by_cases eq:kc=ks
    ·subst eq;simp only[decide_true,Bool.and_self,if_true];refine wpAny_pure (there ⟨c,?_,hc⟩);have:=WU ilt;rw[ec,r4]at this;exact this
    ·rw[decide_eq_false eq];simp only[Yb,Uu,if_false];have sm:t.sameMemory t.moves t.mask=some true:=by
      unfold SetTable.sameMemory;simp
     rw[sm];dsimp only;simp only[if_true];rw[lv];dsimp only;rw[ei];dsimp only;refine wpAny_bind (wpAny_isSame_ref_self (wpAny_bind (wpAny_pure ?_)));simp only[if_true];refine E2 hh hu x1 g hm odd hE hx hK hl hT there free fuel (m+1) _ rfl (by lia) (by lia) fun l c' ks' hlm hc' hk'=>?_;rcases Xo l k with z | z
     ·exact no l c' ks' z hc' hk'
     ·rcases Xo l m with y | y
      ·have:=r5 l z y;rw[hc']at this;exact absurd rfl this
      ·cases (show l=m by lia);rw[ei]at hc';cases hc';intro q;subst q;exact eq ((tupleKind (intKind prog w)).inj hc hk')
   cases LM:t.led with
   |true=>simp only[Up,Uu,if_false];exact main
   |false=>simp only[Ux,if_true];refine wpAny_bind (O5 hx quiet ?_);simp only[Uu,if_false];exact main
end
section
variable{prog:Program}{ks:List Int}{w:World}
theorem IV(mask i:Nat)(h:i<=mask):i+(runEnd mask i-i)<=mask:=by unfold runEnd;split<;>lia
theorem IW(mask:Nat)(h:Int):∀k,(pth mask h k).j+(pth mask h k).more<=mask
 |0=>IV mask _ (V7 (WY _ (Ww _)))
 |k+1=>by
  have ih:=IW mask h k;show (adv mask (pth mask h k)).j+(adv mask (pth mask h k)).more<=mask;unfold adv;split
  ·dsimp only
   lia
  ·exact IV mask _ (by unfold leap;exact V7 (WY _ (Ww mask)))
noncomputable abbrev hsh(prog:Program)(w:World)(ks:List Int):Int:=tupleKeyHash (intKind prog w) ks
noncomputable def itm(prog:Program)(w:World)(q:List Int×Addr):Int×Value:=(hsh prog w q.1,UU q.2)
def SetT(prog:Program)(w:World)(h:Heap)(a:Addr)(P:List (List Int×Addr)):Prop:=(∃es ep t,i8 h a es ep t/\Good t es.size/\Rch t es/\Small t es.size/\(t.led=!w.params.followText "set-order")/\es.toList.Perm (P.map (itm prog w)))/\∀q∈P,IsTupleKey (intKind prog w) h q.1 q.2
theorem lu{h h':Heap}{c:Addr}(x:IsTupleKey (intKind prog w) h ks c)(e:∀o,h.get? c=some o->h'.get? c=some o):IsTupleKey (intKind prog w) h' ks c:=
 let ⟨o,items,n,ho,r⟩:=x
 ⟨o,items,n,e o ho,r⟩
theorem apart{h:Heap}{a c:Addr}{es ep t}(x:i8 h a es ep t)(y:IsTupleKey (intKind prog w) h ks c):c≠a:=fun z=>by subst z;obtain⟨o,ho,hex,_⟩:=x;obtain⟨o',items,n,ho',hc,_⟩:=y;rw[ho]at ho';cases ho';have:=hex.1;rw[hc]at this;exact absurd this (by decide)
end
section
variable{prog:Program}{w:World}{A:Around}{E:Value->Shared->Prop}{s:Shared}{ks:List Int}{a b:Addr}{P:List (List Int×Addr)}
theorem LN{Q:Bool->Shared->Prop}(hu:A.units<cLine)(x:SetT prog w s.heap a P)(hx:IsTupleKey (intKind prog w) s.heap ks b)(hn:P.length+1<=76)
  (h1:(∃q∈P,q.1=ks)->Q false s) (h2:(∀q∈P,q.1≠ks)->∀h',VX a s.heap h'->SetT prog w h' a (P++[(ks,b)])->Q true { s with heap:=h' }) :
  wpAny (model prog w) A (setAddHashed a (.ref b) (hsh prog w ks)) Q E s:=by
 obtain⟨⟨es,ep,t,x1,g,rc,sm,hl,hp⟩,hk⟩:=x;obtain⟨o,ho,hex,hd⟩:=id x1;have RM:es.size=P.length:=by rw[<- Dp,hp.length_eq,Ud]
 have hE:Rz prog w s.heap es:=fun e he=>by obtain⟨q,hq,rfl⟩:=U0.mp (hp.mem_iff.mp he);exact⟨q.1,q.2,rfl,hk q hq⟩
 have odd:t.mask % 2=1:=by rcases sm with⟨q,_⟩ | ⟨q,_⟩ | ⟨q,_⟩<;>rw[q]
 obtain⟨K,k1,k2,k3⟩:=Cd g sm.le (hsh prog w ks);have hT:10*turns t.mask<=100000:=by unfold turns;rcases sm with⟨q,_⟩ | ⟨q,_⟩ | ⟨q,_⟩<;>rw[q]<;>decide
 unfold setAddHashed setAddHashedIn;refine wpAny_holding (wpAny_bind (dH x1 g sm.le ?_));dsimp only;have bs:byScan (UU b) es=false:=rfl;rw[bs];simp only[Uu,if_false];unfold setSearch;refine wpAny_bind (E2 (K:=K) rfl hu x1 g sm.le odd hE hx k2 k3 k1 (fun⟨c,hc,hkc⟩=>?th) (fun free=>?fr) 100000 0 none rfl (U6 _) (by lia) fun l c ks' hl0=>by lia)
 case th=>
  dsimp only;refine wpAny_pure (h1 ?_);obtain⟨q,hq,e⟩:=U0.mp (hp.mem_iff.mp hc);unfold itm at e;injection e with e1 e2
  injection e2 with e2
  refine⟨q,hq,(tupleKind (intKind prog w)).inj (hk q hq) (e2▸hkc)⟩
 case fr=>
  dsimp only;have new:∀q∈P,q.1≠ks:=fun q hq e=>by
   have hm:=hp.mem_iff.mpr (U0.mpr ⟨q,hq,rfl⟩);obtain⟨i,hi,ei⟩:=VT hm;have hi':i<es.size:=by rw[<- Dp];exact hi
   have e1:es[i]?=some (itm prog w q):=by rw[Ds hi'];exact congrArg some (by simpa using ei)
   have hip:i<t.place.size:=by rw[g.sz];exact hi'
   have e2:t.place[i]?=some t.place[i]:=Ds hip;unfold itm at e1;rw[e]at e1;obtain⟨l,lK,el⟩:=rc.ahead k2 (O4 e1 e2);have mem:(pth t.mask (hsh prog w ks) l).j∈t.place.toList:=k3 l lK;obtain⟨_,lv⟩:=A6 g mem;have ii:below t.place (pth t.mask (hsh prog w ks) l).j=i:=by
    rw[el]at lv ⊢;have b1:=(Vf.mp lv).1;have b2:=(Vf.mp lv).2;rcases Nat.lt_trichotomy (below t.place t.place[i]) i with z | z | z
    ·have:=Vj.mp g.ris _ _ (by simpa using b1) (by simpa using hip) z;simp only[V9]at this
     lia
    ·exact z
    ·have:=Vj.mp g.ris _ _ (by simpa using hip) (by simpa using b1) z;simp only[V9]at this
     lia
   exact free l q.2 ks lK (by rw[ii];exact e1) (e▸hk q hq) rfl
  refine wpAny_bind (dH x1 g sm.le ?_);dsimp only;obtain⟨g1,m1,l1⟩:=Dv g (by have:=IW t.mask (hsh prog w ks) K;lia) k2;have rc1:=rc.put g (x:=UU b) k3
  generalize hes:insertAt es (t.put (pth t.mask (hsh prog w ks) K).j).2 (hsh prog w ks,UU b)=es1 at *
  have p1:es1.toList.Perm (es.toList++[(hsh prog w ks,UU b)]):=by rw[<- hes,kr];refine XD.trans List.perm_middle ?_;rw[Vu];exact(List.perm_append_singleton _ _).symm
  have z1:es1.size=es.size+1:=by rw[<- Dp,p1.length_eq,UO,Dp];rfl
  generalize hpt:(t.put (pth t.mask (hsh prog w ks) K).j).1=t1 at *
  rw[<- z1]at g1;have M_:es1.toList.Perm ((P++[(ks,b)]).map (itm prog w)):=by rw[Xp];exact p1.trans (hp.append (.refl _))
  rw[if_pos g1.pl];refine wpAny_bind (IU hx ?_);simp only[if_true];refine wpAny_bind (wpAny_storeSet_of ho hd ?_ (fits_of_scanBound (by show es1.size<4096;lia)));have x2:i8 (s.heap.update a (WZ es1 t1)) a es1 (ep+1) t1:=Cb x1;have sb:=VU s.heap a (WZ es1 t1);have keys:∀h',VX a s.heap h'->∀q∈P++[(ks,b)],IsTupleKey (intKind prog w) h' q.1 q.2:=fun h' sb q hq=>by
   rcases Uy.mp hq with z | z
   ·exact lu (hk q z) fun o e=>(sb.2 _ (apart x1 (hk q z))).trans e
   ·rw[UK.mp z];exact lu hx fun o e=>(sb.2 _ (apart x1 hx)).trans e
  have tf:t1.tooFull=decide ((es.size+1)*5≥t.mask*3):=by unfold SetTable.tooFull SetTable.fill;rw[g1.dm,g1.sz,z1,m1];rfl
  by_cases full:(es.size+1)*5≥t.mask*3
  ·rw[tf,decide_eq_true full];simp only[Ux,Bool.and_self,if_true];obtain⟨M,wn,ns,cv,lM,sm2⟩:∃M,SetTable.sizeAbove (Yc (es.size+1))-1=M/\¬SetTable.sizeAbove (Yc (es.size+1))>sizeLine/\Cov M/\es1.size<=M/\((M=31/\es1.size<=18)\/(M=127/\es1.size<=76)):=by
    rcases sm with⟨q1,q2⟩ | ⟨q1,q2⟩ | ⟨q1,q2⟩
    ·have:es.size=4:=by lia
     exact⟨31,by rw[this];decide +kernel,by rw[this];decide +kernel,Rx,by lia,.inl ⟨rfl,by lia⟩⟩
    ·have:es.size=18:=by lia
     exact⟨127,by rw[this];decide +kernel,by rw[this];decide +kernel,O0,by lia,.inr ⟨rfl,by lia⟩⟩
    ·lia
   obtain⟨t2,order,r1,r2,r3,r4,r5,r6,r7⟩:=Gm (t:=t1) (es:=es1) (wanted:=Yc (es.size+1)) (by rw[wn];exact cv) (by rw[wn];lia) g1.pl;refine wpAny_bind ?_;unfold setRelay;refine wpAny_bind (dH (s:={ s with heap:=s.heap.update a (WZ es1 t1) }) x2 g1 (by rw[m1];rcases sm with⟨a,b⟩ | ⟨a,b⟩ | ⟨a,b⟩<;>lia) ?_);dsimp only;rw[if_neg ns];refine wpAny_bind (wpAny_of_eq (a:=(order.filterMap (es1[·]?),t2)) ?_ ?_)
   ·rw[r1];show (if ((order.filterMap (es1[·]?)).size != es1.size)=true then _ else _)=_;rw[r2];simp
   ·obtain⟨o2,ho2,hex2,hd2⟩:=id x2;dsimp only;refine wpAny_storeSet_of ho2 hd2 ?_ (by rw[r2];exact fits_of_scanBound (by show es1.size<4096;lia));have sb2:=sb.trans (VU (s.heap.update a (WZ es1 t1)) a (WZ (order.filterMap (es1[·]?)) t2));refine wpAny_pure (h2 new _ sb2 ⟨⟨_,_,t2,Cb x2,by rw[r2];exact r3,r7,?_,by rw[r5,l1,hl],r6.trans M_⟩,keys _ sb2⟩);rw[r2];exact .inr (by rw[r4,wn];exact sm2)
  ·rw[tf,decide_eq_false full];simp only[Yb,Uu,if_false];refine wpAny_pure (h2 new _ sb ⟨⟨es1,ep+1,t1,x2,g1,rc1,?_,by rw[l1,hl],M_⟩,keys _ sb⟩);unfold Small;rw[m1];rcases sm with⟨q1,q2⟩ | ⟨q1,q2⟩ | ⟨q1,q2⟩
   ·exact .inl ⟨q1,by lia⟩
   ·exact .inr (.inl ⟨q1,by lia⟩)
   ·exact .inr (.inr ⟨q1,by lia⟩)
end
open PySem PySem.SetTable PySem.W PyProof.Rows
noncomputable def k7(P:List (List Int×Addr))(q:List Int×Addr):List (List Int×Addr):=if P.any (fun p=>p.1 == q.1) then P else P++[q]
noncomputable def oz(qs:List (List Int×Addr))(i:Nat):List (List Int×Addr):=(qs.take i).foldl k7 []
theorem Am{qs:List (List Int×Addr)}{i:Nat}{q:List Int×Addr}(h:qs[i]?=some q):oz qs (i+1)=k7 (oz qs i) q:=by unfold oz;rw[List.take_add_one,h,List.foldl_append];rfl
section
variable{prog:Program}{w:World}{A:Around}{E:Value->Shared->Prop}{s:Shared}
theorem wM{l:Addr}{items:Array Value}{qs:List (List Int×Addr)}{K:Value->Shared->Prop}(hu:A.units+4<cLine)(hh:A.handled=none)(hl:s.heap.IsList l items)(hi:items.toList=qs.map fun q=>UU q.2)(hq:∀q∈qs,IsTupleKey (intKind prog w) s.heap q.1 q.2)(hb:(oz qs qs.length).length<=75)
  (h:∀(h':Heap) (tk:Nat),SetT prog w h' s.heap.objs.size (oz qs qs.length)->(∀b o,b<s.heap.objs.size->s.heap.get? b=some o->h'.get? b=some o)->K (.ref s.heap.objs.size) { s with heap:=h',toks:=tk }):wpAny (model prog w) A (call (.type "set") [.ref l]) K E s:=by
 refine Gk fun led LM=>?_;obtain⟨o,ho,hc,k,hd⟩:=id hl;have ls:l<s.heap.objs.size:=Uh ho;have t1:(s.heap.push (yu led)).IsList l items:=⟨o,Dk _ ho,hc,k,hd⟩
 have g0:(s.heap.push (yu led)).get? s.heap.objs.size=some (yu led):=UW _ rfl;have n1:=PySem.F.sub_list_set;have n2:=PySem.F.sub_list_frozenset;have n3:(Ye "list" == Ye "dict")=false:=by decide
 obtain⟨oc,od,odt,os⟩:=o;simp only at hc hd;subst hc hd;have ho1:(s.heap.push (yu led)).get? l=some { cls:=.type "list",dict:=od,data:=.seq items k,slots:=os }:=Dk _ ho;unfold Builtin.«set.__init__» noKeywords Builtin.Frozenset.updateFrom
 generalize hP:pyIter=PI
 wp_walk
 subst hP;refine wpAny_pyIter_list t1 (wpAny_bind (wpAny_runValue ?_));have ne:l≠(s.heap.push (yu led)).objs.size:=by rw[Wa];exact UM (V5 ls)
 have off:s.heap.objs.size∉[(s.heap.push (yu led)).objs.size,l]:=fun z=>by rw[Wa]at z;simp only[Ui,VV,or_false]at z;exact z.elim (UM (Xe _)) (Xj ls)
 have isz:items.size=qs.length:=by rw[<- Dp,hi,Ud]
 have far:∀q∈qs,q.2∉[(s.heap.push (yu led)).objs.size]:=fun q hq' z=>by obtain⟨o,_,_,e,_⟩:=hq q hq';have:=Uh e;rw[UK.mp z,Wa]at this;exact absurd this (Wm.mpr (Nat.le_succ _))
 have sub:∀i q,q∈oz qs i->q∈qs:=fun i=>by
  have go:∀(ls:List (List Int×Addr)) Mc,(∀q∈Mc,q∈qs)->(∀q∈ls,q∈qs)->∀q∈ls.foldl k7 Mc,q∈qs:=fun ls=>by
   induction ls with
   |nil=>intro Mc h1 _ q hq;exact h1 q hq
   |cons x ls ih=>
    intro Mc h1 h2;refine ih _ (fun q hq=>?_) fun q hq=>h2 q (Ue _ hq);unfold k7 at hq;split at hq
    ·exact h1 q hq
    ·rcases Uy.mp hq with z | z
     ·exact h1 q z
     ·rw[UK.mp z];exact h2 x Uj
  exact go _ [] (fun q h=>by cases h) fun q h=>Vz h
 have len:∀i,(oz qs i).length<=75:=fun i=>by
  refine Nat.le_trans ?_ hb;unfold oz;rw[XT];have go:∀(ls:List (List Int×Addr)) Mc,Mc.length<=(ls.foldl k7 Mc).length:=fun ls=>by
   induction ls with
   |nil=>intro Mc;exact Nat.le_refl _
   |cons x ls ih=>
    intro Mc;refine Nat.le_trans ?_ (ih _);unfold k7;split
    ·exact Nat.le_refl _
    ·rw[UO];exact XW _ _
  have e:XO k7 [] qs=XO k7 [] (qs.take i++qs.drop i):=by rw[Vu]
  rw[e,List.foldl_append];exact go _ _
 refine IQ (J:=fun i h=>SetT prog w h s.heap.objs.size (oz qs i)/\∀q∈qs,IsTupleKey (intKind prog w) h q.1 q.2) ((Walks.list (A:=A.in1.in1.in1) (by simp[hh]) _ l ne items).toS) off (fun i a b x e=>?_) (fun i v u E' K' hi' hv hJ hK=>?_) 0 _ (U6 _)
  ⟨⟨_,UW _ rfl,rfl,rfl⟩,⟨_,Dk _ ho1,rfl,k,rfl⟩⟩ ⟨⟨⟨#[],0,.fresh 0 0 led,⟨_,Dk _ g0,⟨rfl,rfl,rfl⟩,rfl⟩,Dz led,Rch.fresh led,.inl ⟨rfl,U6 _⟩,LM,.refl _⟩,fun q hq=>(by cases hq)⟩,fun q h'=>lu (hq q h') fun o e=>Dk _ (Dk _ e)⟩ fun s' m hJ=>?_
 ·obtain⟨⟨⟨es,ep,t,x1,r⟩,y⟩,z⟩:=x;have kk:∀q∈qs,IsTupleKey (intKind prog w) b q.1 q.2:=fun q h'=>lu (z q h') fun o he=>e _ o (far q h') he;exact⟨⟨⟨es,ep,t,x1.at fun o h=>e _ o (fun z=>off (Ui.mpr (.inl (UK.mp z)))) h,r⟩,fun q h'=>kk q (sub i q h')⟩,kk⟩
 ·have hv':items.toList[i]?=some v:=by rw[U7];exact hv
  rw[hi,UX]at hv';cases eq:qs[i]? with
  |none=>rw[eq]at hv';cases hv'
  |some q=>
   rw[eq]at hv';cases hv';have hqm:q∈qs:=VO eq;have hx:=hJ.2 q hqm;have l17:=len i;unfold setAdd;refine wpAny_holding (wpAny_bind ((tupleKind (intKind prog w)).pyHash (by show A.units+1+1+1<cLine;lia) hx ?_));refine LN (s:={ u with toks:=u.toks+(tupleKind (intKind prog w)).draws q.1 }) (by show A.units+1+1+1<cLine;lia) hJ.1 hx (by lia) (fun⟨p,hp,e⟩=>?_) fun new h' sb hJ'=>?_
   ·refine hK false u.heap _ (XW _ _) (VX.refl _ _) ⟨?_,hJ.2⟩;rw[Am eq];unfold k7;rw[if_pos (WG.mpr ⟨p,hp,by simp[e]⟩)];exact hJ.1
   ·refine hK true h' _ (XW _ _) sb ⟨?_,fun p hp=>?_⟩
    ·rw[Am eq];unfold k7;rw [if_neg fun z=>by
      obtain⟨p,hp,e⟩:=WG.mp z;exact new p hp (by simpa using e)]
     exact hJ'
    ·obtain⟨⟨es,ep,t,x1,_⟩,_⟩:=hJ.1;exact lu (hJ.2 p hp) fun o e=>(sb.2 _ (apart x1 (hJ.2 p hp))).trans e
 ·obtain⟨h',g',d',tk',os'⟩:=s';obtain rfl:g'=s.gens:=m.gens;obtain rfl:d'=s.drawn:=m.drawn;obtain rfl:os'=s.os:=m.os;refine wpAny_pure (wpAny_pure ⟨h',tk',rfl,rfl,h h' tk' (by rw[<- isz];exact hJ.1) fun b o lt e=>m.heap b o (fun z=>?_) (Dk _ (Dk _ e))⟩);rw[Wa]at z;simp only[Ui,VV,or_false]at z;exact z.elim (UM lt) (UM (V5 lt))
end
end Sx
namespace Br
open PySem PySem.Spec PyProof.Rows L2
def LO(prog:Program)(w:World)(h:Heap)(a:Addr)(P:List (List Int×Addr)):Prop:=∃es ep t,Sx.i8 h a es ep t/\Sx.Good t es.size/\Sx.Rch t es/\Sx.Small t es.size/\(t.led=!w.params.followText "set-order")/\es.toList.Perm (P.map (Sx.itm prog w))
theorem Ci{prog:Program}{w:World}:∀{ks:List Int} {its:List Value},Vals (ks.map V.int) its->ItemsAre (intKind prog w) ks its
 |[],_,r=>by cases r;exact .nil
 |n::ks,_,r=>by
  rw[Uc]at r;cases r with
  |cons h t=>obtain⟨tk,rfl⟩:=h;exact .cons (intKind_is prog w n tk) (Ci t)
theorem E3:∀{qs:List (List Int×Addr)} {its:List Value},Vals (qs.map fun p=>V.ref p.2) its->its=qs.map fun p=>UU p.2
 |[],_,r=>by cases r;rfl
 |q::qs,_,r=>by
  rw[Uc]at r;cases r with
  |cons h t=>rw[E3 t];cases h;rfl
end Br
namespace Dm
noncomputable def gm(nss:List (List Int)):List (List Int):=nss.foldl (fun Mc x=>if Mc.any (· == x) then Mc else Mc++[x]) []
end Dm
namespace Br
open PySem PySem.Spec PyProof.Rows L2
theorem Cj(qs:List (List Int×Addr)):(Sx.oz qs qs.length).map (·.1)=Dm.gm (qs.map (·.1)):=by
 unfold Sx.oz Dm.gm;rw[XT];have go:∀(l:List (List Int×Addr)) (Mc:List (List Int×Addr)),(l.foldl Sx.k7 Mc).map (·.1)=(l.map (·.1)).foldl (fun Mc x=>if Mc.any (· == x) then Mc else Mc++[x]) (Mc.map (·.1)):=fun l=>by
  induction l with
  |nil=>intro Mc;rfl
  |cons q l ih=>
   intro Mc;rw[Wj,Uc,Wj,ih]
   congr 1
   unfold Sx.k7;rw[List.any_map];show List.map _ (if (Mc.any fun p=>p.1 == q.1)=true then _ else _)=if (Mc.any fun p=>p.1 == q.1)=true then _ else _
   split
   ·rfl
   ·rw[Xp];rfl
 exact go qs []
theorem A7(qs:List (List Int×Addr))(i:Nat):∀q∈Sx.oz qs i,q∈qs:=by
 have go:∀(ls:List (List Int×Addr)) Mc,(∀q∈Mc,q∈qs)->(∀q∈ls,q∈qs)->∀q∈ls.foldl Sx.k7 Mc,q∈qs:=fun ls=>by
  induction ls with
  |nil=>intro Mc h1 _ q hq;exact h1 q hq
  |cons x ls ih=>
   intro Mc h1 h2;refine ih _ (fun q hq=>?_) fun q hq=>h2 q (Ue _ hq);unfold Sx.k7 at hq;split at hq
   ·exact h1 q hq
   ·rcases Uy.mp hq with z | z
    ·exact h1 q z
    ·rw[UK.mp z];exact h2 x Uj
 exact go _ [] (fun q h=>by cases h) fun q h=>Vz h
theorem Na{H0:Hp}:∀{ds:List Dat} {us:List V} {nss:List (List Int)},bz H0 us ds->Dm.yj ds=some nss->∃qs:List (List Int×Addr),us=qs.map (fun p=>V.ref p.2)/\nss=qs.map (·.1)/\∀p∈qs,H0 p.2=some (.tup (p.1.map V.int))/\p.1≠[]
 |[],_,nss,r,e=>by cases r;cases e;exact⟨[],rfl,rfl,fun p h=>by cases h⟩
 |d::ds,_,nss,r,e=>by
  cases r with
  |cons h t=>
   cases d with
   |tup xs=>
    unfold Dm.yj at e;cases q1:Dm.nK xs with
    |none=>rw[q1]at e;cases e
    |some ns=>
     rw[q1]at e;dsimp only at e;split at e
     ·cases e
     ·rename_i ZN;cases q2:Dm.yj ds with
      |none=>rw[q2]at e;cases e
      |some mss=>
       rw[q2]at e;cases e;obtain⟨qs,a1,a2,a3⟩:=Na t q2;cases h with
       |tup ha hr=>
        rename_i b ys;have:=BR hr q1;subst this;refine⟨(ns,b)::qs,by rw[Uc,<- a1],by rw[Uc,<- a2],fun p hp=>?_⟩;rcases Ui.mp hp with z | z
        ·rw[z];exact ⟨ha,fun z=>by have z:ns=[]:=z;rw[z]at ZN;exact ZN rfl⟩
        ·exact a3 p z
   |_=>cases e
open PySem L2
structure jY(K:gc)(x:Str)(st:Stmt)(a:Addr)(fd:FuncData):Prop where
 e:UQ K mainGlobals x=some (some (.ref a))
 F:Fun K x x st a fd
variable{K:gc}{x:Str}{st:Stmt}{a:Addr}{fd:FuncData}{hp:Heap}{mg:Str->Option Value}
theorem cT{oc:Value}{od an:Option Addr}{osl:Array (Option Value)}{kV doc pm cdv ct:Value}(e:UQ K mainGlobals x=some (some (.ref a)))
  (l:K.lookup a=some ⟨oc,od,.func (Vb x x (cR st) (bR st) (aG st) .none kV doc pm an cdv ct),osl⟩) (c:WX K cdv x=true) (k:Ut K (.ref a)=true) :
  jY K x st a (Vb x x (cR st) (bR st) (aG st) .none kV doc pm an cdv ct):=⟨e,HG l c k⟩
theorem mgo{v:Value}(X:K.In hp)(G:hp.Ns mainGlobals mg)(e:UQ K mainGlobals x=some (some v)):mg x=some v:=PySem.W.mg_of X G e
theorem mno(X:K.In hp)(G:hp.Ns mainGlobals mg)(e:UQ K mainGlobals x=some none):mg x=none:=PySem.W.mg_none_of X G e
theorem jY.m(h:jY K x st a fd)(X:K.In hp)(G:hp.Ns mainGlobals mg):mg x=some (.ref a):=PySem.W.mg_of X G h.e
theorem jY.Tz{y:Str}(h:jY K x st a fd)(hb:∀(kV doc pm:Value) (an:Option Addr) (cdv ct v:Value),bindArgs (Vb x x (cR st) (bR st) (aG st) .none kV doc pm an cdv ct) ⟨[v],[]⟩=pure [(y,v)])(s:Shared)(v:Value):BindsTo s fd ⟨[v],[]⟩ [(y,v)]:=by obtain⟨oc,od,kV,doc,pm,an,cdv,ct,osl,rfl,lk,Sl⟩:=h.F.ex;exact .of_eq (hb kV doc pm an cdv ct v)
theorem hm{j k:Nat}{A:Around}(r:cS k A)(h:j<=k:=by decide):cS j A:=r.mono h
theorem fsc{N P:List Str}{sc:Scope}(h1:sc.kind=.function:=by rfl)(h2:sc.isCoroutine=false:=by rfl)(h3:sc.isGenerator=false:=by rfl)(h4:N.take P.length=P:=by rfl)(h:N.Nodup/\(∀x∈P,sc.names.lookup x=some .local\/sc.names.lookup x=some .cell)/\∀y∈sc.names,y.2≠.free:=by decide +kernel):br N P sc:=⟨h1,h2,h3,h.1,h4,h.2.1,h.2.2⟩
end Br
namespace Dm
noncomputable def rOr(R S:Env->Option Env)(ρ:Env):Option Env:=match R ρ with
 |some x=>some x
 |none=>S ρ
noncomputable def u_(s:FS)(R:Env->Option Env)(ρ:Env):Option Env:=match s ρ with
 |some (.nx ρ1)=>R ρ1
 |_=>none
noncomputable def sUn(f g:FS):FS:=fun ρ=>match f ρ with
 |some x=>some x
 |none=>g ρ
noncomputable def oE(R:Env->Option Env)(C ie:Nat)(h:FS):FS:=fun ρ=>match R ρ with
 |none=>none
 |some ρ1=>if ie=0 then none else match h (ρ1.set ie (.sh (.exc C))) with
  |some (.nx ρ')=>some (.nx (ρ'.set ie .un))
  |some (.ret r ρ')=>some (.ret r (ρ'.set ie .un))
  |_=>none
noncomputable def zQ:List Nat->List Bool->Nat->Option Bool
 |C::cs,b::bs,D=>if D=C then some b else zQ cs bs D
 |_,_,_=>none
noncomputable def eY(cs:List Nat)(bs:List Bool):Dat->Option RV
 |.exc C=>(zQ cs bs C).bind vB
 |.cz C _=>(zQ cs bs C).bind vB
 |_=>none
end Dm
namespace Br
open PySem PySem.Spec PyProof.Rows L2
section
variable{X:Cx}{C:Addr}{E:L2.St->XK}{R S:Dm.Env->Option Dm.Env}{sts L8:List Stmt}{st:Stmt}
section
variable{σ:L2.St}{t:FT}{H:Hp}
theorem O6{f g:FS}(h1:DS X st f)(h2:DS X st g):DS X st (Dm.sUn f g):=fun Ju s σ H D I q=>by
 obtain⟨H0,ρ,o,rs,e,k⟩:=q;unfold Dm.sUn at e;split at e
 ·rename_i y hy;exact h1 Ju s σ H D I ⟨H0,ρ,o,rs,hy.trans e,k⟩
 ·exact h2 Ju s σ H D I ⟨H0,ρ,o,rs,e,k⟩
def tY(C:Addr)(E:L2.St->XK)(R:Dm.Env->Option Dm.Env)(σ:L2.St)(H:Hp):Prop:=∃H0 ρ ρ',aW H0 H σ ρ/\R ρ=some ρ'/\∀σ' a H0' H',SSt σ ρ H0 H σ' ρ' H0' H'->E σ' (.ref C) (some a) H'
noncomputable abbrev YS(X:Cx)(C:Addr)(E:L2.St->XK)(st:Stmt)(R:Dm.Env->Option Dm.Env):Prop:=PS X st (fun _ σ H=>tY C E R σ H)
noncomputable abbrev YB(X:Cx)(C:Addr)(E:L2.St->XK)(sts:List Stmt)(R:Dm.Env->Option Dm.Env):Prop:=PSs X sts (fun _ σ H=>tY C E R σ H)
theorem tY.x(h:tY C E R σ H):tX C E R σ H:=by obtain⟨H0,ρ,ρ',st,e,k⟩:=h;exact⟨H0,ρ,ρ',st,e,fun a H0' H' t=>k σ a H0' H' t.sst⟩
theorem y_x(h:XS X C E st R):YS X C E st R:=PS.weak h fun _ _ _ q=>q.x
theorem tU(h:YS X C E st R):YB X C E (st::L8) R:=by have:=B4 (L8:=L8) h;exact fun Ju s σ H D I q=>this Ju s σ H D I q
theorem TF(h1:YB X C E sts R)(h2:YB X C E sts S):YB X C E sts (Dm.rOr R S):=fun Ju s σ H D I q=>by
 obtain⟨H0,ρ,ρ',st,e,k⟩:=q;unfold Dm.rOr at e;split at e
 ·rename_i y hy;exact h1 Ju s σ H D I ⟨H0,ρ,ρ',st,hy.trans e,k⟩
 ·exact h2 Ju s σ H D I ⟨H0,ρ,ρ',st,e,k⟩
theorem IX{s:FS}(h1:DS X st s)(h2:YB X C E L8 R):YB X C E (st::L8) (Dm.u_ s R):=PSs.weak (nV h1 h2) fun D σ H q=>by
 obtain⟨H0,ρ,ρ',rs,e,k⟩:=q;unfold Dm.u_ at e;split at e
 case h_2=>cases e
 rename_i ρ1 hs;exact⟨H0,ρ,_,rs,hs,fun σ' H0' H' t=>⟨H0',ρ1,ρ',t.st,e,fun σ'' a qP H'' u=>k σ'' a qP H'' (t.trans u)⟩⟩
theorem RB(h:tY C E (Dm.rIf t R S) σ H):tDT t σ H fun b H1=>if b=true then tY C E R σ H1 else tY C E S σ H1:=by
 obtain⟨H0,ρ,ρ',rs,e,k⟩:=h;unfold Dm.rIf at e;split at e
 ·cases e
 ·rename_i ρ1 ht;exact⟨H0,ρ,true,ρ1,rs,ht,fun H0' H' u=>by show (if true=true then _ else _);rw[if_pos rfl];exact⟨H0',ρ1,ρ',u.st,e,fun σ'' a qP H'' w=>k σ'' a qP H'' (u.sst.trans w)⟩⟩
 ·rename_i ρ1 ht;exact⟨H0,ρ,false,ρ1,rs,ht,fun H0' H' u=>by show (if false=true then _ else _);rw[if_neg (by decide)];exact⟨H0',ρ1,ρ',u.st,e,fun σ'' a qP H'' w=>k σ'' a qP H'' (u.sst.trans w)⟩⟩
theorem O7{c:Expr}{a b:List Stmt}{pos:Pos}(hc:DT X c t)(ha:YB X C E a R)(hb:YB X C E b S):YS X C E (.If c a b pos) (Dm.rIf t R S):=PS.weak (Hg hc ha hb) fun _ _ _ q=>RB q
theorem O8:YB X C E sts Dm.rNo:=fun Ju s σ H D I h=>by obtain⟨_,_,_,_,e,_⟩:=h;cases e
end
end
theorem O9{X:Cx}{body:List Stmt}{h0:ExceptHandler}{hs:List ExceptHandler}{q:FS}{pos:Pos}(hb:∀(pn:List (Addr×Obj)) (xe:Value->Shared->Prop),DSs (Cx.in' X pn xe) body q):DS X (.Try body (h0::hs) [] [] pos) q:=by
 intro Ju s σ H D I hq;refine wpAny_Try_except ?_;refine wpAny_mono (hb Ju _ [] s σ H D (Du I) hq) (fun f s1 z=>?_) fun _ _ z=>z;cases f with
 |next=>obtain⟨σ',H',J,k⟩:=z;exact wpAny_execs_nil ⟨σ',H',kZ J,k⟩
 |ret v=>obtain⟨u,σ',H',J,r,k⟩:=z;exact⟨u,σ',H',kZ J,r,k⟩
 |brk=>obtain⟨σ',H',J,k⟩:=z;exact⟨σ',H',kZ J,k⟩
 |cont=>obtain⟨σ',H',J,k⟩:=z;exact⟨σ',H',kZ J,k⟩
section
variable{X:Cx}{Ju pn:List (Addr×Obj)}{σ:L2.St}{H:Hp}{s:Shared}{xe:Value->Shared->Prop}
theorem IY{x n:Str}{np hpos pos:Pos}{body suite:List Stmt}{b₀:Stmt}{R:Dm.Env->Option Dm.Env}{h:FS}{C CP:Addr}{ie:Nat}
  (hst:X.stack=X.env::X.outer) (hfr:X.env.frame=some X.env.locals) (hex:X.ex=[]) (hN:X.N.Nodup) (hi:X.N[ie]?=some n) (hk:X.env.kindOf n=some .local) (hg:Gl X x) (hm:X.mg x=some (.ref CP)) (Z:PySem.W.mT X.K C CP)
  (hb:∀(pn:List (Addr×Obj)) (xe:Value->Shared->Prop) (E:L2.St->XK),ER C (Cx.in' X pn xe) E->YB (Cx.in' X pn xe) C E body R)
  (hh:∀(A':Around) (xe:Value->Shared->Prop),DSs (Cx.sub' X A' xe) (b₀::suite) h) (RQ:(x == ("__debug__" : Str))=false:=by decide) :
  DS X (.Try body [.ExceptHandler (some (.Name x np)) (some n) (b₀::suite) hpos] [] [] pos) (Dm.oE R C ie h):=by
 intro Ju s σ H D I hq;obtain⟨H0,ρ,o,st,e,ok⟩:=hq;unfold Dm.oE at e;split at e
 ·cases e
 rename_i ρ1 hR;split at e
 ·cases e
 rename_i h0;refine wpAny_Try_except ?_;refine wpAny_mono (hb Ju (fun e s₁=>wpAny (model X.prog X.w) X.A (noteFrame e X.env) (fun _ s₂=>wpAny (model X.prog X.w) X.A (setFlight e none) (fun _ s₃=>wpAny (model X.prog X.w) X.A (handleBy e X.env [.ExceptHandler (some (.Name x np)) (some n) (b₀::suite) hpos]) (SP X Ju D) X.xe s₃) X.xe s₂) X.xe s₁)
  (fun σ' _ _ H'=>∃H0',SSt σ ρ H0 H σ' ρ1 H0' H') ?pass [] s σ H DF (Du I) ⟨H0,ρ,ρ1,st,hR,fun σ' a H0' H' t=>⟨H0',t⟩⟩) ?q fun _ _ z=>z
 case q=>
  intro f s1 z;cases f with
  |next=>obtain⟨_,_,_,q⟩:=z;exact UH q
  |ret v=>obtain⟨_,_,_,_,_,q⟩:=z;exact UH q
  |brk=>obtain⟨_,_,_,q⟩:=z;exact UH q
  |cont=>obtain⟨_,_,_,q⟩:=z;exact UH q
 case pass=>
  intro RC σ1 H1 s1 e s' I1 hq;obtain⟨ea,a0,B,H',rfl,os,bare,un,hok,fl,hB,H0',t1⟩:=hq;obtain⟨hh',g,d,t,os'⟩:=s';obtain rfl:os'=s1.os:=os;have J:Inv X Ju σ1 H' ⟨hh',g,d,t,s1.os⟩:=kZ (I1.call (h':=hh') (g':=g) (d':=d) (t':=t) (ch:=[]) un hok bare (fun b z=>absurd z (by simp)));have J1:Inv X Ju σ1 H1 s1:=kZ I1;have DC:∀b o,X.s₀.heap.get? b=some o->∃o1,s1.heap.get? b=some o1:=fun b o e=>J1.base.there b o e (by rw[hex];exact fun z=>nomatch z);have hB':∀b o,hh'.get? b=some o->b∉frs X.stack->((X.s₀.heap.get? b).isSome=true\/(H' b).isSome=true\/∃p∈X.pn++Ju,p.1=b)->B.get? b=some o:=fun b o e nb hc=>by
   refine hB b o e ?_ nb;rcases hc with hc | hc | ⟨p,hp,rfl⟩
   ·obtain⟨o0,e0⟩:=UN.mp hc;obtain⟨o1,e1⟩:=DC b o0 e0;exact .inl (by rw[e1];rfl)
   ·exact .inr hc
   ·exact .inl (by rw[(J1.pin p hp).1];rfl)
  have hfs:X.A.frames=some (X.env::X.outer):=by rw[J.ok.frames,hst]
  have fl':Wv B (X.env::X.outer) ea (.ref C) a0 hh':=by rw[<- hst];exact fl
  show wpAny (model X.prog X.w) X.A (noteFrame (.ref ea) X.env) _ _ _;refine wpAny_looks_onW (base:=B) (L:=X.env.locals) hfs hfr fl' fun h4 held sl4=>?_;refine wpAny_landsW held fun h5 fl5 sl5=>?_;have J5:Inv X Ju σ1 H' ⟨h5,g,d,t,s1.os⟩:=J.fly (t':=t) hex hB' fl5.1 (sl4.trans sl5);obtain⟨oe,vs,he,hc,hd,_⟩:=fl'.first
  have neF:ea∉frs X.stack:=fun z=>by rw[hst]at z;obtain⟨_,o',ho',hd'⟩:=fl'.2.2.1.mem z;rw[he]at ho';cases ho';exact hd' vs hd
  have noB:B.get? ea=none:=fl'.2.1;have nH:H' ea=none:=by
   cases q:H' ea with
   |none=>rfl
   |some u=>have:=hB' ea oe he neF (.inr (.inl (by rw[q];rfl)));rw[noB]at this;cases this
  have n0:X.s₀.heap.get? ea=none:=by
   cases q:X.s₀.heap.get? ea with
   |none=>rfl
   |some u=>have:=hB' ea oe he neF (.inl (by rw[q];rfl));rw[noB]at this;cases this
  have nl:ea≠X.env.locals:=fun z=>by obtain⟨m,⟨o,es,ep,ho,hd',_⟩,_⟩:=J.loc;rw[<- z,he]at ho;cases ho;rw[hd]at hd';cases hd'
  have nc:∀y c,X.env.cells.lookup y=some c->c≠ea:=fun y c e z=>by obtain⟨v,o,ho,hd'⟩:=J.cell y c e;rw[z,he]at ho;cases ho;rw[hd]at hd';cases hd'
  have np:∀p∈X.pn++Ju,p.1≠ea:=fun p hp z=>by have:=hB' ea oe he neF (.inr (.inr ⟨p,hp,z⟩));rw[noB]at this;cases this
  have hB5:∀b o,h5.get? b=some o->b∉frs X.stack->((X.s₀.heap.get? b).isSome=true\/(H' b).isSome=true\/∃p∈X.pn++Ju,p.1=b)->B.get? b=some o:=fun b o e nb Sl=>by
   have:∃o',hh'.get? b=some o':=by
    rcases Sl with hc | hc | ⟨p,hp,rfl⟩
    ·obtain⟨o0,e0⟩:=UN.mp hc;exact J.base.there b o0 e0 (by rw[hex];exact fun z=>nomatch z)
    ·obtain⟨u,e0⟩:=UN.mp hc;exact(J.hok b u e0).there
    ·exact⟨_,(J.pin p hp).1⟩
   obtain⟨o',e'⟩:=this;have q:=hB' b o' e' nb Sl;have q2:=fl5.1 b o' q;rw[e]at q2;cases q2;exact q
  obtain⟨oe5,he5,hc5⟩:=fl5.there;refine wpAny_handleBy_cons (codeAny_handlers_test ?_) (by intro q;cases q);refine g8 (X:=Cx.sub' X (X.A.mark (some (.ref ea))) X.xe) (xP rfl J5) hg hm ?_ RQ;refine PySem.W.wo Z J5.kIn ⟨oe5,he5,hc5⟩ ?_;refine codeAny_handlers_suite_as ?_;refine lands_againW fl5 fun h6 fl6 sl6=>?_;have J6:Inv X Ju σ1 H' ⟨h6,g,d,t,s1.os⟩:=J5.fly (t':=t) hex hB5 fl6.1 sl6;obtain⟨oe6,he6,hc6⟩:=fl6.there;have J7:=J6.Ag (o:=φX ea C) nH (φX_ok he6 hc6) n0 nl nc np;refine uV J7 hN hi (.inl hk) (v:=.ref ea) rfl (fun s8 J8 _=>?_) (.inr hk);have t12:SSt σ ρ H0 H σ1 ρ1 (upd H0' ea (φX ea C)) (upd H' ea (φX ea C)):=t1.trans (ESt.grow t1.st (bA.BJ t1.st.same nH)).sst;have rep:Rep (upd H0' ea (φX ea C)) (V.ref ea) (.exc C):=.exc aL;have A8:SSt σ1 ρ1 (upd H0' ea (φX ea C)) (upd H' ea (φX ea C)) (σ1.set ie (some (.ref ea))) (ρ1.set ie (.sh (.exc C))) (upd H0' ea (φX ea C)) (upd H' ea (φX ea C)):=
   ⟨t12.st.x_ rep,Stp.refl _ _ _,fun a z=>.inl (jb z),gV h0⟩
  have R1:∀(oh:Dm.Out),h (ρ1.set ie (.sh (.exc C)))=some oh->(∀(D':Ends),(∀σ' H3,(∃ρ' H03,oh=.nx ρ'/\SSt (σ1.set ie (some (.ref ea))) (ρ1.set ie (.sh (.exc C))) (upd H0' ea (φX ea C)) (upd H' ea (φX ea C)) σ' ρ' H03 H3)->D'.nx σ' H3)->(∀v H3,(∃z ρ' σ' H03,oh=.ret z ρ'/\SSt (σ1.set ie (some (.ref ea))) (ρ1.set ie (.sh (.exc C))) (upd H0' ea (φX ea C)) (upd H' ea (φX ea C)) σ' ρ' H03 H3/\BK (σ1.set ie (some (.ref ea))) (ρ1.set ie (.sh (.exc C))) (upd H' ea (φX ea C)) H03 H3 v z/\∀d a,z=.new d->v=.ref a->¬aV σ' ρ' a)->D'.rt v H3)->(∀ρ',oh≠.bk ρ')->(∀ρ',oh≠.ct ρ')->wg D' (σ1.set ie (some (.ref ea))) (ρ1.set ie (.sh (.exc C))) (upd H0' ea (φX ea C)) (upd H' ea (φX ea C)) oh):=fun oh _ D' hn hr hb hc=>by
   cases oh with
   |nx ρ'=>exact fun σ' H03 H3 tt=>hn σ' H3 ⟨ρ',H03,rfl,tt⟩
   |bk ρ'=>exact absurd rfl (hb ρ')
   |ct ρ'=>exact absurd rfl (hc ρ')
   |ret z ρ'=>exact fun σ' v H03 H3 tt rr no=>hr v H3 ⟨z,ρ',σ',H03,rfl,tt,rr,no⟩
  cases hoh:h (ρ1.set ie (.sh (.exc C))) with
  |none=>rw[hoh]at e;cases e
  |some oh=>
  rw[hoh]at e;have nb:∀ρ',oh≠.bk ρ':=fun ρ' z=>by rw[z]at e;cases e
  have nc':∀ρ',oh≠.ct ρ':=fun ρ' z=>by rw[z]at e;cases e
  refine wpAny_mono (hh (X.A.mark (some (.ref ea))) _ Ju s8 _ _ { nx:=fun σ' H3=>∃ ρ' H03,oh=.nx ρ'∧SSt (σ1.set ie (some (.ref ea))) (ρ1.set ie (.sh (.exc C))) (upd H0' ea (φX ea C)) (upd H' ea (φX ea C)) σ' ρ' H03 H3,rt:=fun v H3=>∃ z ρ' σ' H03,oh=.ret z ρ'∧SSt (σ1.set ie (some (.ref ea))) (ρ1.set ie (.sh (.exc C))) (upd H0' ea (φX ea C)) (upd H' ea (φX ea C)) σ' ρ' H03 H3∧BK (σ1.set ie (some (.ref ea))) (ρ1.set ie (.sh (.exc C))) (upd H' ea (φX ea C)) H03 H3 v z∧∀ d a,z=.new d→v=.ref a→¬ aV σ' ρ' a,bk:=fun _ _=>False,ct:=fun _ _=>False } (xP rfl J8)
   ⟨_,_,_,A8.st,hoh,R1 oh hoh _ (fun _ _ z=>z) (fun _ _ z=>z) nb nc'⟩) (fun f s4 z=>?_) fun _ _ z=>z
  cases f with
  |next=>obtain⟨σ',H3,I4,ρ',H03,rfl,tt⟩:=z;cases e;refine name_goes (qq J.ok I4) hN hi hk fun s9 J9=>?_;exact⟨σ'.set ie none,H3,J9,ok _ _ _ (t12.trans (A8.trans (tt.trans (SSt.drop tt.st h0))))⟩
  |ret v=>
   obtain⟨u,σ0,H3,I4,rl,z,ρ',σ',H03,rfl,tt,rr,no⟩:=z;cases e;refine name_goes (qq J.ok I4) hN hi hk fun s9 J9=>?_;refine⟨u,σ0.set ie none,H3,J9,rl,ok _ _ _ _ (t12.trans (A8.trans (tt.trans (SSt.drop tt.st h0)))) ?_ ?_⟩
   ·cases z with
    |val d=>exact rr
    |new d=>
     obtain⟨a,ea',n,n0',w⟩:=rr;refine⟨a,ea',?_,n0',w⟩;have tp:=t12.trans A8;rcases n with n | n
     ·exact .inl (tp.stp.gone n)
     ·exact(tp.own a n).symm
   ·intro d a hz hv ho;obtain⟨j,d',h1,h2⟩:=ho;refine no d a hz hv ?_;by_cases hj:ie=j
    ·subst hj;rw[VR]at h1;simp only[if_true]at h1;split at h1<;>cases h1
    ·rw[gV hj]at h1 h2;exact⟨j,d',h1,h2⟩
  |brk=>obtain⟨_,_,_,q⟩:=z;exact UH q
  |cont=>obtain⟨_,_,_,q⟩:=z;exact UH q
end
theorem RD{C:Addr}{N:List Str}{n m:Nat}{R:Dm.Env->Option Dm.Env}{vs:List V}{H:Hp}{Q:VK}{E:XK}(hm:N.length=n+m)(h:spX C (Dm.fnX n m R) vs H Q E):tY C (fun _=>E) R (start N vs) H:=by have hvn:=ES h;obtain⟨H0,ds,s,rs,e,k⟩:=h;unfold Dm.fnX at e;rw[U9]at e;obtain⟨st,no⟩:=B5 hm hvn s rs;obtain⟨ρ',hR⟩:=UN.mp e.2;exact⟨H0,_,ρ',st,hR,fun σ' a H0' H' t=>k a H0' H' ⟨t.stp.s0,fun a o e=>t.stp.s1 a o e (no a),fun a o e=>(t.stp.s2 a o e).imp id fun q=>q.elim id fun z=>absurd z (no a),t.st.same⟩⟩
theorem okY{P:Program}{w:World}{K:gc}{mg:Str->Option Value}{base:Heap}{x qual:Str}{st:Stmt}{f C:Addr}{fd:FuncData}{N ps:List Str}{k n m:Nat}{R:Dm.Env->Option Dm.Env}(F:Fun K x qual st f fd)(S:br N ps (aG st))(hn:ps.length=n)(hm:N.length=n+m)
  (hbody:∀(cdv:Value) (A:Around) (outer:List Env) (s:Shared) (H:Hp) (E:XK),cS k (A.deeper (envOfC qual (aG st) s.heap.objs.size f cdv))->YB (dD (CXE P w C) P w K mg base N qual (aG st) f cdv A outer s H E) C (fun _=>E) (bR st) R) :
  cF P w K mg base (CXE P w C) (k+1) f fd ps (spX C (Dm.fnX n m R)):=by
 obtain⟨oc,od,kV,doc,pm,an,cdv,ct,osl,rfl,lk,Sl⟩:=F.ex;refine Er lk Sl S (fun vs H Q E h=>(ES h).trans hn.symm) fun A outer s H vs Q E hr hsp=>?_;exact⟨_,hbody cdv A outer s H E hr,RD hm hsp⟩
section
variable{X:Cx}{C:Nat}{b:Bool}{cs:List Nat}{bs:List Bool}{e:Expr}{f:FE}
theorem ao(h1:DE X e (Dm.e1 (Dm.B3 C b) f))(h2:DE X e (Dm.e1 (Dm.eY cs bs) f)):DE X e (Dm.e1 (Dm.eY (C::cs) (b::bs)) f):=fun Ju s σ H Q I q=>by
 obtain⟨H0,ρ,x,ρ',st,e0,k⟩:=q;have e:=e0;unfold Dm.e1 at e;split at e
 ·cases e
 rename_i x1 ρ1 e1;split at e
 ·cases e
 rename_i dx p1;cases dx with
 |exc D=>
  by_cases hD:D=C
  ·refine h1 Ju s σ H Q I ⟨H0,ρ,x,ρ',st,?_,k⟩;unfold Dm.e1;rw[e1];dsimp only;rw[p1];dsimp only;rw[<- e];unfold Dm.B3 Dm.eY Dm.zQ;dsimp only;rw[if_pos hD,if_pos hD];rfl
  ·refine h2 Ju s σ H Q I ⟨H0,ρ,x,ρ',st,?_,k⟩;unfold Dm.e1;rw[e1];dsimp only;rw[p1];dsimp only;rw[<- e];unfold Dm.eY;dsimp only;rw[Dm.zQ.eq_def (C::cs)];dsimp only;rw[if_neg hD]
 |cz D mv=>
  by_cases hD:D=C
  ·refine h1 Ju s σ H Q I ⟨H0,ρ,x,ρ',st,?_,k⟩;unfold Dm.e1;rw[e1];dsimp only;rw[p1];dsimp only;rw[<- e];unfold Dm.B3 Dm.eY Dm.zQ;dsimp only;rw[if_pos hD,if_pos hD];rfl
  ·refine h2 Ju s σ H Q I ⟨H0,ρ,x,ρ',st,?_,k⟩;unfold Dm.e1;rw[e1];dsimp only;rw[p1];dsimp only;rw[<- e];unfold Dm.eY;dsimp only;rw[Dm.zQ.eq_def (C::cs)];dsimp only;rw[if_neg hD]
 |_=>cases e
theorem mh:DE X e (Dm.e1 (Dm.eY [] []) f):=fun Ju s σ H Q I q=>by
 obtain⟨H0,ρ,x,ρ',st,e,k⟩:=q;unfold Dm.e1 at e;split at e
 ·cases e
 split at e
 ·cases e
 rename_i dx p1;cases dx<;>cases e
end
end Br
set_option maxHeartbeats 4000000
namespace Ts
open PySem PyProof.Rows
variable{A:Around}{E:Value->Shared->Prop}{s:Shared}{prog:Program}{w:World}
end Ts
namespace Br
open PySem PySem.Spec PyProof.Rows L2
theorem okQ{P:Program}{w:World}{K:gc}{mg:Str->Option Value}{base:Heap}{x qual:Str}{st:Stmt}{f:Addr}{fd:FuncData}{N ps:List Str}{k n m:Nat}{body:FS}(F:Fun K x qual st f fd)(S:br N ps (aG st))
  (hb:∀(cdv:Value) (A:Around) (outer:List Env) (s:Shared) (H:Hp) (E:XK),cS k (A.deeper (envOfC qual (aG st) s.heap.objs.size f cdv))->DSs (dD CX0 P w K mg base N qual (aG st) f cdv A outer s H E).nox (bR st) body)
  (hn:ps.length=n:=by rfl) (hm:N.length=n+m:=by rfl):cF P w K mg base CX0 (k+1) f fd ps (spD (Dm.fn n m body)):=
 F.ok S (fun vs H Q E h=>(Dh h).trans hn.symm) fun cdv A outer s H vs Q E hr h=>⟨_,hb cdv A outer s H E hr,QT hm h⟩
end Br
namespace Dm
noncomputable def vc(f:FE)(m:Int)(ρ:Env):Option Env:=match f ρ with
 |some (.val (.int i),ρ1)=>if i=m then some ρ1 else none
 |_=>none
noncomputable def qJ(bd:FB)(body:FS)(R:Env->Option Env):List Dat->Env->Option Env
 |[],_=>none
 |d::q,ρ=>match bd d ρ with
  |none=>none
  |some ρ1=>match R ρ1 with
   |some ρ2=>some ρ2
   |none=>match body ρ1 with
    |some (.nx ρ2)=>qJ bd body R q ρ2
    |_=>none
noncomputable def Gn(it:FI)(bd:FB)(body:FS)(R:Env->Option Env)(ρ:Env):Option Env:=match it ρ with
 |none=>none
 |some (ds,ρ1)=>qJ bd body R ds ρ1
noncomputable def tW(R:Env->Option Env)(d:Dat)(ie:Nat)(h:FS):FS:=fun ρ=>match R ρ with
 |none=>none
 |some ρ1=>if ie=0 then none else match h (ρ1.set ie (.sh d)) with
  |some (.nx ρ')=>some (.nx (ρ'.set ie .un))
  |some (.ret r ρ')=>some (.ret r (ρ'.set ie .un))
  |_=>none
open Classical in
noncomputable def yw(R:Int->Env->Option Env)(C ie:Nat)(h:FS):FS:=fun ρ=>if e:∃m,(R m ρ).isSome=true then tW (R e.choose) (.cz C e.choose) ie h ρ else none
noncomputable def Ck(C:Nat):Dat->Option RV
 |.cz C' v=>if C'=C then vI v else none
 |_=>none
end Dm
namespace PySem
open Sem (wp)
def DK(h h':Heap):Prop:=∀b o,h.get? b=some o->∃o',h'.get? b=some o'/\o'.dict=o.dict
theorem DK.refl(h:Heap):DK h h:=fun _ o e=>⟨o,e,rfl⟩
theorem DK.trans{h1 h2 h3:Heap}(x:DK h1 h2)(y:DK h2 h3):DK h1 h3:=fun b o e=>by obtain⟨o1,e1,d1⟩:=x b o e;obtain⟨o2,e2,d2⟩:=y b o1 e1;exact⟨o2,e2,d2.trans d1⟩
def DkF(f:Obj->Obj):Prop:=∀o,(f o).dict=o.dict/\(o.isFreed=false->(f o).isFreed=false)
theorem DK.upd{h:Heap}{a:Addr}{f:Obj->Obj}(hf:DkF f):DK h (h.update a f):=fun b o e=>by
 by_cases z:a=b
 ·subst z;exact⟨_,Vp f e ((hf o).2 (Heap.get?_some_iff.mp e).2),(hf o).1⟩
 ·exact⟨o,(VW h f z).trans e,rfl⟩
theorem DG(g:Array Value->Array Value):DkF (Obj.mapFields g):=fun o=>by obtain⟨c,d,dt,s⟩:=o;cases dt<;>exact⟨rfl,fun z=>by first | exact z | rfl⟩
def Dkt{α:Type}:Sem α->Prop
 |.pure _=>True
 |.raise _=>True
 |.unsupported _=>True
 |.finish _=>True
 |.rule _ k=>Dkt (k ())
 |.at _ k=>Dkt (k ())
 |.load _ _ k=>∀o,Dkt (k o)
 |.update _ _ f k=>DkF f/\Dkt (k ())
 |.loadIfAlive _ k=>∀o,Dkt (k o)
 |.point _ k=>Dkt (k ())
 |.register _ _=>True
 |.alloc _ k=>∀a,Dkt (k a)
 |.fresh k=>∀t,Dkt (k t)
 |.ask k=>∀t,Dkt (k t)
 |.choose _ _ _=>False
 |.os _ _ _=>False
 |.call _ _ _ _ _=>False
 |.handled _ k=>∀t,Dkt (k t)
 |.genState _ _=>False
 |.newGen _ _=>False
 |.resume _ _ _ _=>False
 |.yield _ _ _ _=>True
 |.stack k=>∀t,Dkt (k t)
 |.fork _ _=>True
 |.thread k=>∀t,Dkt (k t)
 |.await _ _ _ _ _=>True
theorem Dkt.bind'{α β:Type}{f:α->Sem β}(hf:∀a,Dkt (f a)){m:Sem α}(h:Dkt m):Dkt (m.bind f):=by
 induction m with
 |pure a=>exact hf a
 |raise e=>trivial
 |unsupported w=>trivial
 |finish e=>trivial
 |rule t k ih=>exact ih () h
 |«at» p k ih=>exact ih () h
 |load a p k ih=>exact fun o=>ih o (h o)
 |update a p g k ih=>exact⟨h.1,ih () h.2⟩
 |loadIfAlive a k ih=>exact fun o=>ih o (h o)
 |point l k ih=>exact ih () h
 |register a k ih=>trivial
 |alloc o k ih=>exact fun o=>ih o (h o)
 |fresh k ih=>exact fun o=>ih o (h o)
 |ask k ih=>exact fun o=>ih o (h o)
 |handled o k ih=>exact fun o=>ih o (h o)
 |yield v g l k ih=>trivial
 |stack k ih=>exact fun o=>ih o (h o)
 |fork c k ih=>trivial
 |thread k ih=>exact fun o=>ih o (h o)
 |await a t d l k ih=>trivial
 |choose s n k ih=>exact h.elim
 |os q l k ih=>exact h.elim
 |call c h' g l k ih=>exact h.elim
 |genState g k ih=>exact h.elim
 |newGen c k ih=>exact h.elim
 |resume g r l k ih=>exact h.elim
theorem Dkt.bind{α β:Type}{f:α->Sem β}{m:Sem α}(h:Dkt m)(hf:∀a,Dkt (f a)):Dkt (m >>= f):=Dkt.bind' hf h
theorem Dkt.keep{α:Type}{M:Model}{Γ:Ctx}{Q:α->Pos->Shared->Prop}{E:Value->Pos->Shared->Prop}{h0:Heap}{t:Sem α}{p:Pos}{s:Shared}(h:Dkt t)(d:DK h0 s.heap)(w:wp M Γ t Q E p s):wp M Γ t (fun a p s'=>Q a p s'/\DK h0 s'.heap) E p s:=by
 induction t generalizing p s with
 |pure a=>exact⟨w,d⟩
 |raise e=>exact w
 |unsupported w'=>exact w
 |finish e=>exact w
 |rule t k ih=>exact ih () h d w
 |«at» p' k ih=>exact ih () h d w
 |load a p' k ih=>obtain⟨o,e,w⟩:=w;exact⟨o,e,ih o (h o) d w⟩
 |update a p' g k ih=>exact⟨w.1,ih () h.2 (d.trans (DK.upd h.1)) w.2⟩
 |loadIfAlive a k ih=>exact ih _ (h _) d w
 |point l k ih=>exact ih () h d w
 |register a k ih=>exact w
 |alloc o k ih=>exact ih _ (h _) (d.trans fun b o' e=>⟨o',Dk _ e,rfl⟩) w
 |fresh k ih=>exact ih _ (h _) d w
 |ask k ih=>exact ih _ (h _) d w
 |handled o k ih=>exact ih _ (h _) d w
 |yield v g l k ih=>exact w
 |stack k ih=>exact ih _ (h _) d w
 |fork c k ih=>exact w
 |thread k ih=>exact ih _ (h _) d w
 |await a t d l k ih=>exact w
 |choose s' n k ih=>exact h.elim
 |os q l k ih=>exact h.elim
 |call c h' g l k ih=>exact h.elim
 |genState g k ih=>exact h.elim
 |newGen c k ih=>exact h.elim
 |resume g r l k ih=>exact h.elim
theorem oF{α:Type}{M:Model}{A:Around}{t:Sem α}{Q:α->Shared->Prop}{E:Value->Shared->Prop}{s:Shared}(h:Dkt t)(w:wpAny M A t Q E s):wpAny M A t (fun a s'=>Q a s'/\DK s.heap s'.heap) E s:=
 fun Γ p hΓ=>Dkt.keep h (DK.refl _) (w Γ p hΓ)
theorem qt(v:Value)(i:Nat):Dkt (field v i):=by
 unfold field fieldsOf;refine Dkt.bind ?_ fun a=>by split<;>trivial
 split
 ·refine Dkt.bind (fun o=>trivial) fun o=>?_;split<;>trivial
 ·trivial
theorem A9(v:Value)(i:Nat)(x:Value):Dkt (setField v i x):=by
 unfold setField updateField;split
 ·refine Dkt.bind (fun o=>trivial) fun o=>?_;split
  ·split
   ·exact⟨DG _,trivial⟩
   ·trivial
  ·trivial
 ·trivial
theorem qS(e:Value)(f:Option Addr):Dkt (setFlight e f):=by
 unfold setFlight;refine Dkt.bind (qt _ _) fun tb=>?_;split
 ·exact A9 _ _ _
 ·trivial
theorem IZ:Dkt frameEnvs:=by unfold frameEnvs;exact Dkt.bind (fun t=>trivial) fun t=>trivial
theorem I0(env:Env)(i:Bool)(l:List Env):Dkt (keptBack env i l):=by
 unfold keptBack;split
 ·split
  ·trivial
  ·refine Dkt.bind ?_ fun b=>trivial;unfold underTheClaimsCaller
   first | exact Dkt.bind (fun t=>trivial) fun t=>trivial | (intro t;trivial) | trivial
 ·trivial
theorem LP(env:Env)(l:List Env):Dkt (behindIsImport env l):=by
 unfold behindIsImport;split
 ·trivial
 ·split
  ·trivial
  ·exact Dkt.bind (qt _ _) fun b=>trivial
theorem An:∀l:List Env,Dkt (readyFrames l)
 |[]=>trivial
 |env::outer=>by
  unfold readyFrames;split
  ·refine Dkt.bind (fun o=>trivial) fun o=>?_;split
   ·trivial
   ·refine Dkt.bind (LP _ _) fun i=>Dkt.bind (I0 _ _ _) fun b=>Dkt.bind ⟨fun o=>⟨rfl,fun z=>by obtain⟨oc,od,odt,os⟩:=o;cases odt<;>first | rfl | exact z⟩,trivial⟩ fun _=>An outer
  ·trivial
theorem Gp(env:Env):Dkt (frameOf env):=by
 unfold frameOf;refine Dkt.bind IZ fun es=>Dkt.bind ?_ fun o=>?_
 ·unfold frameObject;split
  ·trivial
  ·exact Dkt.bind (An _) fun _=>trivial
 ·split<;>trivial
theorem Gq(f:Addr)(b:Bool):Dkt (entryPlaceOf f b):=by unfold entryPlaceOf;refine Dkt.bind (fun t=>trivial) fun t=>?_;split<;>trivial
theorem Gr(next frame lineno flight lasti:Value)(pl:List Value):Dkt (Xs next frame lineno flight lasti pl):=by
 unfold Xs newFields newObj newObjAsIs;dsimp only
 generalize ([next,frame,lineno,flight,lasti]++(if pl.isEmpty=true then fj 6 Value.none else pl)).toArray=vs
 split
 ·trivial
 ·exact fun a=>trivial
theorem Cm(e:Value)(env:Env):Dkt (noteFrame e env):=by
 unfold noteFrame;split
 ·refine Dkt.bind (qt _ _) fun head=>?_;have R1:∀f:Addr,Dkt (do setField e 1 (<- Xs head (<- frameOf env) .none (rawInt f) .none (<- entryPlaceOf f (head != .none)))):=fun f=>Dkt.bind (Gp _) fun a=>Dkt.bind (Gq _ _) fun pl=>Dkt.bind (Gr ..) fun b=>A9 _ _ _;split
  ·refine Dkt.bind (qt _ _) fun x=>?_;split
   ·trivial
   ·exact Dkt.bind (A9 _ _ _) fun _=>R1 _
  ·exact R1 _
 ·trivial
theorem wB(env:Env)(e:Value):Dkt (leaving env e):=by unfold leaving;exact Dkt.bind (Cm _ _) fun _=>qS _ _
end PySem
namespace PySem.W
open PySem PySem.Spec PySem.Calls PyProof.Rows
section
variable{prog:Program}{w:World}{A:Around}{E:Value->Shared->Prop}{h:Heap}{g:Array GenState}{d:Drawn}{t:Nat}{os:OsState}{K:Frag}
variable{nm q:Str}{C N fI:Addr}{bs bm bmB:List Value}{hdct:Bool}{sn:List Str}{sub:List Value}{ab:Bool}{col:Option Bool}{dd:Option Addr}{k0 k1 k2 k3 k5:Option Value}{B newId initId:String}
theorem t7{L8:List Value}{Q:Value->Shared->Prop}(F:ExcBaseFacts B newId initId bmB)(T:OwnTail h bmB bm)(hC:h.get? C=some (excClassObj nm q C N bs bm hdct sn sub ab col dd k0 k1 k2 k3 k5 newId))(X:K.In h)
  (hi:findIn K (.ref C) "__init__" = some (some (.ref fI))) (hf:typeIn K (.ref fI)=some (.type "function")) (hz:L8.length<=sizeLine)
  (k:∀h' e,Xw h h' e (.ref C) L8->codeAny (model prog w) (A.under (.builtin "type.__call__" ⟨.ref C::L8,[]⟩)) (.call (.ref fI) ⟨.ref e::L8,[]⟩) (fun r s'=>match r with | .ok (.ret v)=>v=.none/\Q (.ref e) s' | .ok _=>False | .error x=>E x s') ⟨h',g,d,t,os⟩) :
  wpAny (model prog w) A (call (.ref C) L8) Q E ⟨h,g,d,t,os⟩:=by
 have Lt:Looks (model prog w) h (typeOf (.ref C)) (.type "type"):=(Xx hC).andThen .now;have Lc:Looks (model prog w) h (typeLookup (.type "type") "__call__") (some (.builtin "type.__call__")):=Xd tc_lookup;have Li:=looks_findIn (M:=model prog w) X hi;have Lb:∀self,Looks (model prog w) h (bindSpecial (.ref fI) self) (.ref fI,[self]):=fun self=>bind_fn X self hf;have Lm:Looks (model prog w) h (mroOf (.ref C)) (.ref C::bm):=((Xx (part:=none) hC).andThen .now).andThen .now;refine wpAny_call (codeAny_of_tree ?_);show wpAny _ _ (callAny (.ref C) ⟨L8,[]⟩) _ _ _;refine nd_load hC ?_;show wpAny _ _ (callAny.viaDunder (.ref C) _) _ _ _;unfold callAny.viaDunder;have Lk:Looks (model prog w) h (bindSpecial (.builtin "type.__call__") (.ref C)) (.builtin "type.__call__",[.ref C]):=Xd (tc_bind _);have Ls:Looks (model prog w) h (specialOf (.ref C) "__call__") (some (.builtin "type.__call__")):=Lt.andThen Lc
 repeat lk
 have Ln:Looks (model prog w) h (Bind.madeBy (.ref C)) (some newId):=fun A' Q' E' s' kp z=>by obtain⟨h1,g1,d1,t1,o1⟩:=s';exact wpAny_madeBy_exc (kp _ _ hC) z
 refine⟨rfl,codeAny_call_builtin_at (WS _ (by decide +kernel)) entry_typeCall (wpAny_check_type_call_sub hC ?_)⟩;show wpAny _ _ (Builtin.«type.__call__» ⟨.ref C::L8,[]⟩) _ _ _;unfold Builtin.«type.__call__»
 repeat (first | with_reducible refine wpAny_call ?_ | lk)
 refine codeAny_call_builtin_code (WS _ F.quiet) (wpAny_check_new_subT F T hC (codeAny_exc_new_subT F T hC ?_ hz))
 let h2:Heap:=(h.push { cls:=.type "tuple",data:=.seq L8.toArray }).push { cls:=.ref C,data:=.fields #[.ref h.objs.size,.none,.none,.none,.bool false,.none] }
 have up:∀b o,h.get? b=some o->h2.get? b=some o:=fun b o e=>Dk _ (Dk _ e);have he:h2.get? (h.objs.size+1)=some { cls:=.ref C,data:=.fields #[.ref h.objs.size,.none,.none,.none,.bool false,.none] }:=by heap_get
 have mk:Xw h h2 (h.objs.size+1) (.ref C) L8:=⟨up,Wz (Nat.le_succ _),h.objs.size,he,Wz (Nat.le_refl _),Dk _ (Heap.get?_push_at rfl rfl)⟩
 have Le:Looks (model prog w) h2 (typeOf (.ref (h.objs.size+1))) (.ref C):=(Xx he).andThen .now;have Lx:Looks (model prog w) h2 (isSubtype (.ref C) (.ref C)) true:=fun A' Q' E' s' kp z=>by obtain⟨h1,g1,d1,t1,o1⟩:=s';refine wpAny_isSubtype_exc (kp _ _ (up _ _ hC)) ?_;rw[XG,beq_self_eq_true];exact z
 have Lj:Looks (model prog w) h2 (typeLookup (.ref C) "__init__") (some (.ref fI)):=fun A' Q' E' s' kp z=>Li A' Q' E' s' (fun b o e=>kp b o (up b o e)) z;have Lg:Looks (model prog w) h2 (bindSpecial (.ref fI) (.ref (h.objs.size+1))) (.ref fI,[.ref (h.objs.size+1)]):=fun A' Q' E' s' kp z=>Lb _ A' Q' E' s' (fun b o e=>kp b o (up b o e)) z;have go:=k h2 (h.objs.size+1) mk;show wpAny _ _ _ _ _ ⟨h2,g,d,t,os⟩;unfold isInstance callSpecial? specialOf
 repeat (first | with_reducible refine wpAny_call ?_ | lk)
 refine codeAny_mono go fun r s' z=>?_;obtain⟨h3,g3,d3,t3,o3⟩:=s';rcases r with x | (_ | _ | _ | v)
 ·exact z
 ·exact z
 ·exact z
 ·exact z
 ·obtain⟨rfl,z⟩:=z
  repeat lk
  exact z
theorem DH{h:Heap}{bmB tl:List Value}(T:OwnTail h bmB tl)(self:Value)(what:Str):refuseLoop self what tl=refuseLoop self what bmB:=by
 induction T with
 |base=>rfl
 |own _ _ _ _ ih=>exact(refuseLoop_ref ..).trans ih
theorem Gs{x:Addr}{vs:Array Value}{sl:Array (Option Value)}{name:Str}{v:Value}{Q:Unit->Shared->Prop}(F:StoreFacts "ValueError" bmB "object.__setattr__" "object")(T:OwnTail h bmB bm)
  (hC:h.get? C=some (excClassObj nm q C N bs bm true sn sub ab col dd k0 k1 k2 k3 k5 newId)) (X:K.In h) (hs:findIn K (.ref C) "__setattr__" = some (some (.builtin "object.__setattr__"))) (ha:findIn K (.ref C) name=some none)
  (hx:h.get? x=some ⟨.ref C,none,.fields vs,sl⟩)
  (k:∀h' tk',h'.get? x=some ⟨.ref C,some h.objs.size,.fields vs,sl⟩->h'.Ns1 h.objs.size (fun y=>if y=name then some v else none)->(∀b ob,b≠x->h.get? b=some ob->h'.get? b=some ob)->Q () ⟨h',g,d,tk',os⟩) :
  wpAny (model prog w) A (setAttr (.ref x) name v) Q E ⟨h,g,d,t,os⟩:=by
 have I:InstAt h x ⟨.ref C,none,.fields vs,sl⟩ C none:=⟨hx,rfl,rfl,trivial⟩
 refine set_plain (s:=⟨h,g,d,t,os⟩) X I hs ?_;have Lt:Looks (model prog w) h (typeOf (.ref x)) (.ref C):=I.type;have Lo:Looks (model prog w) h (isInstance (.ref x) (.type "object")) true:=Lt.andThen fun A' Q' E' s' kp z=>by obtain⟨h1,g1,d1,t1,o1⟩:=s';refine wpAny_isSubtype_exc (kp _ _ hC) ?_;rw[XG,T.hasType F.hasOwner,Bool.or_true];exact z
 have Lm:Looks (model prog w) h (mroOf (.ref C)) (.ref C::bm):=((Xx (part:=none) hC).andThen .now).andThen .now;have La:=looks_findIn (M:=model prog w) X ha;have Lr:Looks (model prog w) h (refuseLoop (.ref x) "__setattr__" (.ref C::bm)) ():=Xd (by rw[refuseLoop_ref,DH T];exact F.passes _);refine codeAny_call_builtin F.slot.plain F.entry (@check_slot (model prog w) _ _ ⟨h,g,d,t+1,os⟩ "object.__setattr__" "object" "__setattr__" (.ref x) [.str name t,v] [] _ F.kind F.split Lo (F.args (.ref x) (.str name t) v) ?_);rw[osa_eq,refuse_eq];have Lcd:=(Xx (part:=none) (M:=model prog w) hC)
 repeat lk
 have ne:h.objs.size≠x:=Xj (Uh hx);have hx1:(h.push { cls:=.type "dict",data:=.dict #[] }).get? x=some ⟨.ref C,none,.fields vs,sl⟩:=Dk _ hx;refine wpAny_update (s:=⟨h.push { cls:=.type "dict",data:=.dict #[] },g,d,t+1,os⟩) hx1 ?_
 let h2:Heap:=(h.push { cls:=.type "dict",data:=.dict #[] }).update x fun o=>{ o with dict:=some h.objs.size }
 have hd2:h2.get? h.objs.size=some { cls:=.type "dict",data:=.dict #[] }:=by show ((h.push _).update x _).get? _=_;rw[VW _ _ ne.symm];exact Heap.get?_push_at rfl rfl
 have hx2:h2.get? x=some ⟨.ref C,some h.objs.size,.fields vs,sl⟩:=Vp _ hx1 rfl;have ho2:∀b o,b≠x->h.get? b=some o->h2.get? b=some o:=fun b o hb e=>by show ((h.push _).update x _).get? _=_;rw[VW _ _ (Vl hb)];exact Dk _ e
 have e0:h2.Ns1 h.objs.size fun _=>none:=Heap.Ns1.of_empty ⟨_,#[],_,hd2,rfl,fun e he=>absurd he (Array.not_mem_empty e),fun _=>rfl⟩;show wpAny _ _ (dictMade (.ref C) x h.objs.size) _ _ ⟨h2,g,d,t+1,os⟩;unfold dictMade;refine wpAny_pure ?_;show wpAny _ _ (Builtin.ObjectAttr.storeInDict h.objs.size (.str name t) name v) _ _ _;unfold Builtin.ObjectAttr.storeInDict Builtin.ObjectAttr.newKeyGuard;refine wpAny_bind (wpAny_pure (wpAny_bind (wpAny_nsSet1 (s:=⟨h2,g,d,t+1,os⟩) e0 fun h3 n3 s3=>?_)));obtain⟨od,es,ep,e1,e2,e3⟩:=n3.count (ns:=[name]) (Within.cons name v Within.nil);refine wpAny_bind (wpAny_lookBehind e1 (by rw[e2];exact pastItsLine_dict (Nat.le_trans e3 (by rw[sizeLine_eq];show 1<=_;lia))) ?_)
 repeat lk
 exact k h3 _ ((s3.2 x ne.symm).trans hx2) n3 fun b o hb e=>(s3.2 b (UM (Uh e))).trans (ho2 b o hb e)
end
end PySem.W
namespace PySem
open Sem (wp)
open PySem.W
section
variable{prog:Program}{w:World}{A:Around}{E:Value->Shared->Prop}{h:Heap}{g:Array GenState}{d:Drawn}{t:Nat}{os:OsState}
variable{nm q:Str}{C N e t0:Addr}{bs bm bmB:List Value}{hdct:Bool}{sn:List Str}{sub:List Value}{ab:Bool}{col:Option Bool}{dd:Option Addr}{k0 k1 k2 k3 k5:Option Value}{B newId initId:String}
theorem vd(F:ExcBaseFacts B newId initId bmB)(T:OwnTail h bmB bm){L8:List Value}{dx:Option Addr}{sl:Array (Option Value)}{Q:Value->Shared->Prop}
  (hC:h.get? C=some (excClassObj nm q C N bs bm hdct sn sub ab col dd k0 k1 k2 k3 k5 newId)) (he:h.get? e=some { cls:=.ref C,dict:=dx,data:=.fields #[.ref t0,.none,.none,.none,.bool false,.none],slots:=sl })
  (hq:∀h',(∀b o,b≠e->h.get? b=some o->h'.get? b=some o)->(∃t1,h'.get? e=some { cls:=.ref C,dict:=dx,data:=.fields #[.ref t1,.none,.none,.none,.bool false,.none],slots:=sl })->h.objs.size<=h'.objs.size->Q .none ⟨h',g,d,t,os⟩) (hrest:L8.length<=sizeLine:=by size_fits) :
  wpAny (model prog w) A (call (.builtin initId) (.ref e::L8)) Q E ⟨h,g,d,t,os⟩:=by
 refine wpAny_call (codeAny_call_builtin F.init.plain F.initEntry (wpAny_check_init_subT F T hC he rfl ?_))
 wp_walk
 refine hq _ (fun b o hb hbo=>?_) ⟨h.objs.size,?_⟩ ?_
 ·rw[VW _ _ (Vl hb)];exact Dk _ hbo
 ·rw[Vp _ (Dk _ he) rfl];rfl
 ·simp[Heap.update,Heap.push]
end
end PySem
namespace L2
open PySem PySem.Spec PyProof.Rows
section
variable{P:Program}{w:World}{h:Heap}{H:Hp}
def ly(C a:Addr):Heap->Prop:=fun h=>∃t0 sl,h.get? a=some { cls:=.ref C,dict:=none,data:=.fields #[.ref t0,.none,.none,.none,.bool false,.none],slots:=sl }
def yx(C a d:Addr):Heap->Prop:=fun h=>∃t0 sl,h.get? a=some { cls:=.ref C,dict:=some d,data:=.fields #[.ref t0,.none,.none,.none,.bool false,.none],slots:=sl }
theorem A_{C a:Addr}(x:ly C a h):bZ P w H h a (.ext (ly C a)):=
 ⟨x,let ⟨_,_,e⟩:=x;⟨_,e⟩,fun _ _ ⟨t0,sl,e⟩ k=>⟨t0,sl,k _ e⟩⟩
theorem LQ{C a d:Addr}(x:yx C a d h):bZ P w H h a (.ext (yx C a d)):=
 ⟨x,let ⟨_,_,e⟩:=x;⟨_,e⟩,fun _ _ ⟨t0,sl,e⟩ k=>⟨t0,sl,k _ e⟩⟩
def tIB(C:Addr)(t:TA):TE:=fun σ H Q=>t σ H fun vs H1=>∃a v,vs=[.ref a,v]/\H1 a=some (.ext (ly C a))/\Q .non H1
end
section
variable{X:Cx}{e:Expr}{es:List Expr}{t:TA}{pos ZK:Pos}
variable{nm q:Str}{C N Pa:Addr}{bs bm bmB:List Value}{hdct:Bool}{sn:List Str}{sub:List Value}{ab:Bool}{col:Option Bool}{dd:Option Addr}{k0 k1 k2 k3 k5:Option Value}{B newId initId:String}
theorem I_{pl:Sem Bool}{x:Str}{np:Pos}{mc:Value}(hg:Gl X x)(hbd:X.mg x=some (.ref Pa))(F:ExcBaseFacts B newId initId bmB)(T:OwnTail X.base bmB bm)(hC:X.base.get? C=some (excClassObj nm q C N bs bm hdct sn sub ab col dd k0 k1 k2 k3 k5 newId))
  (hga:W3 X.K (.ref Pa) "__getattribute__" = some (some (.builtin "type.__getattribute__"))) (hr:X3 X.K Pa mc=true) (hf:X4 X.K (.ref Pa) mc "__init__" = some (.val (.builtin initId))) (hh:PySem.W.handedIn (.builtin initId)=true)
  (ha:PA X (e::es) t) (RQ:(x == ("__debug__" : Str))=false:=by decide)
  (hst:starEach (e::es) X.env=(false,eval e X.env)::starEach es X.env:=by rfl) (RN:(backTo pos (starEach es X.env)).any (·.1)=false:=by rfl)
  (ht:eval (.Call (.Attribute (.Name x np) "__init__" ZK) (e::es) [] pos) X.env=(do
   let ov <- eval (.Name x np) X.env
   standAt ZK.atName
   let (f,first) <- holding [ov] (getMethod ov "__init__" pl)
   callWith pos f first (backTo pos (starEach (e::es) X.env)) (backToKw pos (keywordEach [] X.env))):=by rfl) :
  PE X (.Call (.Attribute (.Name x np) "__init__" ZK) (e::es) [] pos) (tIB C t):=by
 intro Ju s σ H Q I h;refine PySem.W.methodCall_KW (pl:=pl) (g8 I hg hbd ?_ RQ) ht;refine PySem.W.method_cls I.kIn hga (PySem.W.cls_value I.kIn hr hf hh ?_);have I1:Inv X Ju σ H { s with toks:=s.toks+1 }:=I.tok _;have hA:=ha pos Ju _ σ H _ I1 h;rw[hst]at hA ⊢;refine W9 (by show (false||(backTo pos (starEach es X.env)).any (·.1))=false;rw[RN]<;>rfl) (Calls.evalArgs_plain ?_);refine thn hA fun us s2 ⟨vs,H2,I2,r2,q2⟩=>?_;obtain⟨a,v,rfl,hq,k⟩:=q2;obtain⟨u1,u2,rfl,r1,_⟩:=Vals.two r2;obtain rfl:u1=UU a:=r1;obtain⟨⟨t0,sl,he⟩,_⟩:=(show bZ X.prog X.w H2 s2.heap a (.ext (ly C a)) from I2.hok a _ hq)
 obtain⟨hp,g,d,tk,os⟩:=s2;refine vd F (T.keeps I2.bk) (I2.bk _ _ hC) he (fun h' k1 ⟨t1,k2⟩ k3=>?_) (by show 1<=sizeLine;decide);have hu:upd H2 a (.ext (ly C a))=H2:=by
  funext b
  by_cases z:b=a
  ·rw[z,aL,hq]
  ·rw[aJ z]
 have I3:=I2.write (x:=a) (e:=a) (t':=tk) (h':=h') (o:=.ext (ly C a)) (by rw[hq];exact WC) (.inl rfl) (fun b u hb z=>k1 b u hb z) ⟨_,k2⟩ (A_ ⟨t1,sl,k2⟩);rw[hu]at I3;exact⟨.non,H2,I3,rfl,k⟩
end
def sXF(C:Addr)(ta tv:TE)(f:Str):TS:=fun D σ H=>tv σ H fun y H1=>ta σ H1 fun x H2=>∃a,x=.ref a/\H2 a=some (.ext (ly C a))/\∀d,H2 d=none->d≠a->D.nx σ (upd (upd H2 d (.xd [(f,y)])) a (.ext (yx C a d)))
section
variable{X:Cx}{o value:Expr}{ta tv:TE}{pos pos':Pos}{f:Str}
variable{nm q:Str}{C N:Addr}{bs bm bmB:List Value}{sn:List Str}{sub:List Value}{ab:Bool}{col:Option Bool}{dd:Option Addr}{k0 k1 k2 k3 k5:Option Value}{B newId:String}
theorem RE(SF:StoreFacts "ValueError" bmB "object.__setattr__" "object")(T:OwnTail X.base bmB bm)(hC:X.base.get? C=some (excClassObj nm q C N bs bm true sn sub ab col dd k0 k1 k2 k3 k5 newId))
  (hS:Ug X.K (.ref C) "__setattr__" = some (some (.builtin "object.__setattr__"))) (hF:Ug X.K (.ref C) f=some none) (ha:PE X o ta) (hv:PE X value tv) (hs:swapsWith value (some (.Attribute o f pos')) pos.line X.env=pure false:=by rfl) :
  PS X (.Assign [.Attribute o f pos'] value pos) (sXF C ta tv f):=by
 intro Ju s σ H D I h;refine plainObj_wpAny_Assign_Attribute (thn (hv Ju s σ H _ I h) fun u s1 ⟨y,H1,I1,ry,q⟩=>thn (ha Ju s1 σ H1 _ I1 q) fun ov s2 ⟨x,H2,I2,rx,a,ex,ea,q2⟩=>?_) hs;subst ex;obtain rfl:ov=UU a:=rx;obtain⟨⟨t0,sl,he⟩,_⟩:=(show bZ X.prog X.w H2 s2.heap a (.ext (ly C a)) from I2.hok a _ ea)
 obtain⟨hp,g,dr,tk,os⟩:=s2;have RO:a<hp.objs.size:=Uh he;refine PySem.W.Gs SF (T.keeps I2.bk) (I2.bk _ _ hC) I2.kIn hS hF he fun h' tk' k1 k2 k3=>?_;have hd0:H2 hp.objs.size=none:=I2.hok.fresh (Nat.le_refl _);have dne:hp.objs.size≠a:=Xj RO;have ks:(h'.update a fun _=>{ cls:=UU C,dict:=none,data:=Xz #[.ref t0,.none,.none,.none,.bool false,.none],slots:=sl }).get? a=some { cls:=UU C,dict:=none,data:=Xz #[.ref t0,.none,.none,.none,.bool false,.none],slots:=sl }:=Vp _ k1 rfl;have ko:∀b,b≠a->(h'.update a fun _=>{ cls:=UU C,dict:=none,data:=Xz #[.ref t0,.none,.none,.none,.bool false,.none],slots:=sl }).get? b=h'.get? b:=fun b hb=>Heap.get?_update_ne _ _ _ _ hb
 generalize (h'.update a fun _=>{ cls:=UU C,dict:=none,data:=Xz #[.ref t0,.none,.none,.none,.bool false,.none],slots:=sl })=hm at ks ko
 have I3:=I2.laid (a:=hp.objs.size) (o:=.xd [(f,y)]) (t':=tk') (h':=hm) (fun b w z=>by
  by_cases hb:b=a
  ·subst hb;have:hp.get? b=some w:=z;rw[he]at this;cases this;exact ks
  ·rw [ko b hb];exact k3 b w hb z) (Nat.le_refl _) ⟨(fun z=>if z=f then some u else none),(by
   obtain⟨od,es,ep,e1,r⟩:=k2;exact⟨od,es,ep,by rw[ko _ dne];exact e1,r⟩),fun nm=>by
    show C2 (List.lookup nm [(f,y)]) (if nm=f then some u else none);by_cases hn:nm=f
    ·subst hn;rw[if_pos rfl,Vc,beq_self_eq_true];exact ry
    ·rw[if_neg hn,Vc,beq_eq_false_iff_ne.mpr hn];exact WC⟩
 have I4:=I3.write (x:=a) (e:=a) (t':=tk') (h':=h') (o:=.ext (yx C a hp.objs.size)) (by rw[aJ (Vl dne),ea];exact WC) (.inl rfl) (fun b w hb z=>by rw[<- ko b hb];exact z) ⟨_,k1⟩ (LQ ⟨t0,sl,k1⟩);exact⟨σ,_,I4,q2 _ hd0 dne⟩
end
end L2
namespace PySem.W
open PySem PySem.Spec PySem.Calls PyProof.Rows
section
variable{M:Model}{A:Around}{E:Value->Shared->Prop}{s:Shared}{env:Env}
variable{nm q:Str}{C N:Addr}{bs bm:List Value}{hdct:Bool}{sn:List Str}{sub:List Value}{ab:Bool}{col:Option Bool}{dd:Option Addr}{k0 k1 k2 k3 k5:Option Value}{newId:String}
theorem DJ{x:Sem Value}{Q:Flow->Shared->Prop}(hb:bm.contains (.type "BaseException")=true)(hh:A.handled=none)
  (h:wpAny M A x (fun v s1=>∃ea t0 dx sl,v=.ref ea/\s1.heap.get? C=some (excClassObj nm q C N bs bm hdct sn sub ab col dd k0 k1 k2 k3 k5 newId)/\s1.heap.get? ea=some ⟨.ref C,dx,.fields #[.ref t0,.none,.none,.none,.bool false,.none],sl⟩/\E (.ref ea) s1) E s) :
  wpAny M A (raiseStmt env (some x) none) Q E s:=by
 unfold raiseStmt;refine wpAny_bind (wpAny_mono h (fun v s1 z=>?_) fun _ _ z=>z);obtain⟨ea,t0,dx,sl,rfl,hC,he,z⟩:=z;obtain⟨h1,g,d,t,os⟩:=s1;have Lt:Looks M h1 (typeOf (.ref ea)) (.ref C):=(Xx he).andThen .now;have Ls:Looks M h1 (isSubtype (.ref C) (.type "BaseException")) true:=fun A' Q' E' s' kp w=>by obtain⟨h2,g2,d2,t2,o2⟩:=s';refine wpAny_isSubtype_exc (kp _ _ hC) ?_;rw[XG,hb,Bool.or_true];exact w
 have Li:Looks M h1 (isInstance (.ref ea) (.type "BaseException")) true:=Lt.andThen Ls
 repeat lk
 refine wpAny_handled (s:=⟨h1,g,d,t,os⟩) ?_;rw[hh];exact wpAny_throw z
end
noncomputable def isI(K:Frag)(C fI:Addr)(bmB:List Value)(newId:String):Bool:=match K.lookup C with
 | some o=>o.cls == .type "type" && (match o.data with
  |.cls c=>c.mro.head? == some (.ref C)&&(c.hasDict&&!c.hasDel)&&tailIn K bmB c.mro.tail&&(o.slots.size == 6&&o.slots[4]? == some (some (.builtin newId)))
  |_=>false)
 |none=>false
end PySem.W
namespace L2
open PySem PySem.Spec PyProof.Rows
structure Gu(x:Str)(C fI:Addr)(bmB:List Value)(newId:String)(K:gc)(mg:Str->Option Value)(base:Heap):Prop where
 bound:mg x=some (.ref C)
 kp:Ut K (.ref C)=true
 init:Ug K (.ref C) "__init__" = some (some (.ref fI))
 fn:Xy K (.ref fI)=some (.type "function")
 obj:∃bm N nm q bs sn sub ab col dd k0 k1 k2 k3 k5,base.get? C=some (excClassObj nm q C N bs bm true sn sub ab col dd k0 k1 k2 k3 k5 newId)/\OwnTail base bmB bm
theorem LR{x:Str}{C fI:Addr}{bmB:List Value}{newId:String}{K:gc}{mg:Str->Option Value}{base:Heap}(X:K.In base)(bound:mg x=some (.ref C))(kp:Ut K (.ref C)=true)
  (init:Ug K (.ref C) "__init__" = some (some (.ref fI))) (fn:Xy K (.ref fI)=some (.type "function")) (q:PySem.W.isI K C fI bmB newId=true):Gu x C fI bmB newId K mg base:=by
 refine⟨bound,kp,init,fn,?_⟩;unfold PySem.W.isI at q;split at q
 case h_2=>cases q
 rename_i o ho;obtain⟨oc,od,dt,sl⟩:=o;cases dt with
 |cls c=>
  obtain⟨nm,bs,mro,ns,qn,hd,sn,sub,ab,col,del⟩:=c;simp only[U9,beq_iff_eq,Bool.not_eq_true']at q;obtain⟨rfl,⟨⟨⟨q1,rfl,rfl⟩,q2⟩,q3,q4⟩⟩:=q;cases mro with
  |nil=>cases q1
  |cons v bm=>
   cases q1;obtain⟨l⟩:=sl;have hl:l.length=6:=q3
   match l,hl,q4 with
   |[k0,k1,k2,k3,k4,k5],_,q4=>
    have:k4=some (.builtin newId):=by simpa using q4
    subst this;exact⟨bm,ns,nm,qn,bs,sn,sub,ab,col,od,k0,k1,k2,k3,k5,X _ _ ho,PySem.W.tail_of_in X q2⟩
 |_=>simp at q
theorem Inv.drop{X:Cx}{Ju:List (Addr×Obj)}{σ:St}{H:Hp}{s:Shared}(I:Inv X Ju σ H s){ea:Addr}{φ:Heap->Prop}(h:H ea=some (.ext φ)):Inv X Ju σ (fun b=>if b=ea then none else H b) s:=by
 have kp:∀b o,H b=some o->(∀ψ,o≠.ext ψ)->(if b=ea then none else H b)=some o:=fun b o e n=>by rw[if_neg fun z=>by subst z;rw[h]at e;cases e;exact n φ rfl];exact e
 have no:∀b,H b=none->(if b=ea then none else H b)=none:=fun b e=>by split<;>first | rfl | exact e
 refine⟨I.ok,I.os,I.bare,⟨I.base.keep,I.base.slot,fun b o e n hx=>no b (I.base.free b o e n hx),I.base.there,fun b xs e=>kp b _ (I.base.tups b xs e) (fun _ z=>by cases z),fun b o u e=>kp b _ (I.base.uT b o u e) (fun _ z=>by cases z),fun b x y z e=>kp b _ (I.base.wH b x y z e) (fun _ z=>by cases z)⟩,I.loc,I.cell,no _ I.free,fun x c e=>no _ (I.jW x c e),fun p hp=>?_,fun b u e=>?_,I.len⟩
 ·obtain⟨e,n,r⟩:=I.pin p hp;exact⟨e,no _ n,r⟩
 ·have hb:b≠ea:=fun z=>by rw[if_pos z]at e;cases e
  rw[if_neg hb]at e;exact(I.hok b u e).stay (fun c v _ q=>q) (fun c q=>kp c _ q fun _ z=>by cases z) (fun c _ _ q=>kp c _ q fun _ z=>by cases z) fun c xs q=>kp c _ q fun _ z=>by cases z
def ve(C:Addr):Sp:=fun vs H Q _=>∃(a:Addr) (i:Int),vs=[.ref a,.int i]/\H a=some (.ext (ly C a))/\∀d,H d=none->d≠a->Q .non (upd (upd H d (.xd [("moment",.int i)])) a (.ext (yx C a d)))
theorem O_{CX:CXT}{P:Program}{w:World}{K:gc}{mg:Str->Option Value}{base:Heap}{x qual:Str}{st:Stmt}{f C:Addr}{fd:FuncData}{N ps:List Str}{k:Nat}(F:Fun K x qual st f fd)(S:br N ps (aG st))(hn:ps.length=2)
  (hbody:∀(cdv:Value) (A:Around) (outer:List Env) (s:Shared) (H:Hp) (E:XK),cS k (A.deeper (envOfC qual (aG st) s.heap.objs.size f cdv))->PSs (dD CX P w K mg base N qual (aG st) f cdv A outer s H E) (bR st) (Kp (Eo (tIB C (qI (Bx 0) (qI (Bx 1) C9)))) (Kp (sXF C (Bx 0) (Bx 1) "moment") G_))) :
  cF P w K mg base CX (k+1) f fd ps (ve C):=by
 obtain⟨oc,od,kV,doc,pm,an,cdv,ct,osl,rfl,lk,Sl⟩:=F.ex;refine Er lk Sl S (fun vs H Q E h=>?_) fun A outer s H vs Q E hr hsp=>⟨_,hbody cdv A outer s H E hr,?_⟩
 ·obtain⟨a,i,rfl,_⟩:=h;exact hn.symm
 ·obtain⟨a,i,rfl,h,q⟩:=hsp;exact⟨.ref a,rfl,.int i,rfl,a,.int i,rfl,h,.int i,rfl,.ref a,rfl,a,rfl,h,q⟩
section
variable{X:Cx}{x:Str}{C fI:Addr}{bmB:List Value}{B newId initId:String}{np cpos pos:Pos}{e:Expr}{te:TE}{k:Nat}{fd:FuncData}{ps:List Str}
theorem Gv{post:St->Int->Hp->Prop}(hx0:X.ex=[])(hc:X.calm=true)(hg:Gl X x)(O:Gu x C fI bmB newId X.K X.mg X.base)(FB:ExcBaseFacts B newId initId bmB)(G:cF X.prog X.w X.K X.mg X.base CX0 k fI fd ps (ve C))(hr:cS (k+1) X.A)(hb:Binds X.K fd ps [])(he:PE X e te)
  (hE:∀Ju σ H1 s ea d t0 sl i,Inv X Ju σ (upd H1 d (.xd [("moment",.int i)])) s->post σ i H1->H1 d=none->s.heap.get? ea=some ⟨.ref C,some d,.fields #[.ref t0,.none,.none,.none,.bool false,.none],sl⟩->X.s₀.heap.get? ea=none->H1 ea=none->d≠ea->X.xe (.ref ea) s)
  (RQ:(x == ("__debug__" : Str))=false:=by decide) (hs:starEach [e] X.env=(false,eval e X.env)::starEach [] X.env:=by rfl) (RN:(backTo cpos (starEach [] X.env)).any (·.1)=false:=by rfl) :
  PS X (.Raise (some (.Call (.Name x np) [e] [] cpos)) none pos) (fun _ σ H=>te σ H fun v H1=>∃i:Int,[v]=[V.int i]/\post σ i H1):=by
 intro Ju s σ H D I h;obtain⟨bm,N,nm,q,bs,sn,sub,ab,col,dd,k0,k1,k2,k3,k5,hC,T⟩:=O.obj;rw[arm_exec_Raise];refine wpAny_bind (wpAny_standAt ?_);show wpAny _ _ (raiseStmt X.env (some (do let v <- eval (.Call (.Name x np) [e] [] cpos) X.env;standAt pos;pure v)) none) _ _ _;refine PySem.W.DJ (C:=C) (nm:=nm) (q:=q) (N:=N) (bs:=bs) (bm:=bm) (hdct:=true) (sn:=sn) (sub:=sub) (ab:=ab) (col:=col) (dd:=dd) (k0:=k0) (k1:=k1) (k2:=k2) (k3:=k3) (k5:=k5) (newId:=newId) (T.hasType FB.hasBase) (I.ok.hd hc) (wpAny_bind ?_);refine wpAny_Call_Name_kw (g8 I hg O.bound ?_ RQ);refine Wh (h₀:=X.base) I.ok.mod.kin O.kp (thn (gb he mE hs cpos Ju s σ H (fun vs H1=>∃i:Int,vs=[.int i]/\post σ i H1) I h) fun us s1 ⟨vs,H1,I1,r,i,ev,hp⟩=>⟨I1.kIn,?_⟩) hs RN;subst ev;obtain⟨u,rfl,ru⟩:=vals1 r;obtain⟨hh,g,d,t,os⟩:=s1;refine PySem.W.t7 FB (T.keeps I1.bk) (I1.bk _ _ hC) I1.kIn O.init O.fn (by show 1<=sizeLine;decide) fun h' ea mk=>?_;obtain⟨t0,he0,_⟩:=mk.there;have I2:Inv X Ju σ H1 ⟨h',g,d,t,os⟩:=I1.kept (t':=t) mk.keeps;have nH:H1 ea=none:=by
  cases z:H1 ea with
  |none=>rfl
  |some o=>obtain⟨u,e⟩:=(I1.hok ea o z).there;rw[mk.new]at e;cases e
 have n0:X.s₀.heap.get? ea=none:=by
  cases z:X.s₀.heap.get? ea with
  |none=>rfl
  |some o=>
   by_cases hx:ea∈X.ex
   ·rw[hx0]at hx;cases hx
   ·obtain⟨u,e⟩:=I1.base.there ea o z hx;rw[mk.new]at e;cases e
 have nl:ea≠X.env.locals:=fun z=>by obtain⟨m,⟨o,_,_,e,_⟩,_⟩:=I1.loc;rw[<- z,mk.new]at e;cases e
 have nc:∀y c,X.env.cells.lookup y=some c->c≠ea:=fun y c e z=>by obtain⟨v,o,e,_⟩:=I1.cell y c e;rw[z,mk.new]at e;cases e
 have np:∀p∈X.pn++Ju,p.1≠ea:=fun p hp z=>by have e:=(I1.pin p hp).1;rw[z,mk.new]at e;cases e
 have I3:=I2.Ag (o:=.ext (ly C ea)) nH (A_ ⟨t0,_,he0⟩) n0 nl nc np;have hl:([UU ea,u]++[]).length=ps.length:=(G.len [.ref ea,.int i] (upd H1 ea (.ext (ly C ea))) (fun _ _=>True) E0 ⟨ea,i,rfl,aL,fun _ _ _=>trivial⟩)
 have hbb:=hb ⟨h',g,d,t,os⟩ [.ref ea,u] I3.kIn hl;rw[U3]at hbb;have run:=G.run (X.A.under (.builtin "type.__call__" ⟨.ref C::[u],[]⟩)) X.stack ⟨h',g,d,t,os⟩ (upd H1 ea (.ext (ly C ea))) ⟨[.ref ea,u],[]⟩ [.ref ea,u] [.ref ea,.int i]
  (fun v H'=>v=.non/\∃dx,(upd H1 ea (.ext (ly C ea))) dx=none/\dx≠ea/\H'=upd (upd (upd H1 ea (.ext (ly C ea))) dx (.xd [("moment",.int i)])) ea (.ext (yx C ea dx))) E0 (hr.make C [u] []) (I3.Hz.make C [u] []) hbb (.cons rfl (.cons ru .nil)) ⟨ea,i,rfl,aL,fun dx h1 h2=>⟨rfl,dx,h1,h2,rfl⟩⟩
 refine codeAny_mono run fun r s' z=>?_;rcases r with x | (_ | _ | _ | v)
 ·exact z.elim
 ·exact z.elim
 ·exact z.elim
 ·exact z.elim
 obtain⟨w,H',I4,rw',rfl,dx,d1,d2,rfl⟩:=I3.after z;obtain rfl:v=Value.none:=rw';refine⟨rfl,wpAny_bind (wpAny_standAt (wpAny_pure ?_))⟩;obtain⟨⟨t1,sl,e1⟩,_⟩:=(show bZ X.prog X.w _ s'.heap ea (.ext (yx C ea dx)) from I4.hok ea _ aL)
 refine⟨ea,t1,some dx,sl,rfl,I4.bk _ _ hC,e1,?_⟩;have I5:=I4.drop (ea:=ea) aL;have eq:(fun b=>if b=ea then none else (upd (upd (upd H1 ea (.ext (ly C ea))) dx (.xd [("moment",.int i)])) ea (.ext (yx C ea dx))) b)=upd H1 dx (.xd [("moment",.int i)]):=by
  funext b
  by_cases hb:b=ea
  ·subst hb;rw[if_pos rfl,aJ (Vl d2),nH]
  ·rw[if_neg hb,aJ hb];by_cases hd:b=dx
   ·subst hd;rw[aL,aL]
   ·rw[aJ hd,aJ hb,aJ hd]
 rw[eq]at I5;rw[aJ d2]at d1;exact hE Ju σ H1 s' ea dx t1 sl i I5 hp d1 e1 n0 nH d2
end
def CXF(P:Program)(w:World)(C:Addr):CXT:=fun outer H s E e s'=>
 ∃ea a0 B H' dx,e=.ref ea/\s'.os=s.os/\AllBare s'.gens/\Un (frs outer) [] H H' s.heap s'.heap/\HOk P w H' s'.heap/\Wv B outer ea (.ref C) a0 s'.heap/\(∃o,s'.heap.get? ea=some o/\o.dict=some dx) /\
  (∀b o,s'.heap.get? b=some o->(s.heap.get? b).isSome=true\/(H' b).isSome=true->b∉frs outer->B.get? b=some o)/\E (.ref C) (some dx) H'
section
variable{P:Program}{w:World}{K:gc}{mg:Str->Option Value}{base:Heap}{N:List Str}{qual:Str}{scope:Scope}{f:Addr}{cd:Value}{A:Around}{outer:List Env}{s₀:Shared}{H₀:Hp}{E:XK}{C:Addr}
 {Ju:List (Addr×Obj)} {σ:St} {H:Hp} {s:Shared}
theorem Ja(I:Inv (dD (CXF P w C) P w K mg base N qual scope f cd A outer s₀ H₀ E) Ju σ H s){ea d t0:Addr}{sl:Array (Option Value)}(he:s.heap.get? ea=some ⟨.ref C,some d,.fields #[.ref t0,.none,.none,.none,.bool false,.none],sl⟩)
  (n0:s₀.heap.get? ea=none) (nH:H ea=none) (hE:E (.ref C) (some d) H):(dD (CXF P w C) P w K mg base N qual scope f cd A outer s₀ H₀ E).xe (.ref ea) s:=by
 let X:=dD (CXF P w C) P w K mg base N qual scope f cd A outer s₀ H₀ E
 have hin:∀env∈X.stack,∀b,env.frame=some b->b∈ea::frs X.stack:=fun env hv b hb=>Ue _ (VY.mpr ⟨env,hv,hb⟩)
 let Bh:=Xh s.heap (ea::frs X.stack)
 have hen:Bh.get? ea=none:=PySem.W.hideAll_none _ Uj;show wpAny (model P w) _ (leaving _ (.ref ea)) _ _ _;have go:=wpAny_leaving_firstW (M:=model P w) (E:=fun _ _=>False) (base:=Bh) (env:=X.env) (outer:=outer) (L:=s₀.heap.objs.size) (a0:=.ref t0) (Q:=fun _ s'=>∃h',Heap.LeftW Bh X.stack ea (.ref C) (.ref t0) s.heap h'/\s'={ s with heap:=h' })
  I.ok.frames (PySem.W.funFrames_hide I.stack hin) rfl he (fun b o q=>XA _ q) hen rfl rfl rfl fun h' hL=>⟨h',hL,rfl⟩
 refine wpAny_mono (oF (wB _ _) go) (fun _ s' z=>?_) fun _ _ z=>z.elim;obtain⟨⟨h'',⟨k1,⟨_,_,k2⟩,k3,k4⟩,rfl⟩,dk⟩:=z;obtain ⟨u1,u2,u3⟩:=I.out (h'':=h'') (Bh:=Bh) rfl (fun b o q hb hh=>Xq _ q fun z=>by
  rcases Ui.mp z with rfl | z
  ·rcases hh with hh | hh
   ·have:s₀.heap.get? b=none:=n0;rw[show X.s₀=s₀ from rfl,this]at hh;cases hh
   ·rw[nH]at hh;cases hh
  ·exact hb z) k1 k4
 exact⟨ea,.ref t0,Bh,H,d,rfl,I.os,I.bare,u1,u2,⟨k1,hen,k2,k3⟩,dk ea _ he,u3,hE⟩
theorem RG:Passes (CXF P w C) (dD (CXF P w C) P w K mg base N qual scope f cd A outer s₀ H₀ E) E:=by
 intro Ju σ H s e s' I hq;obtain⟨ea,a0,Bh,H',dx,rfl,os,bare,un,hok,fl,⟨oe,he,hd⟩,hB,hE⟩:=hq;obtain⟨hh,g,d,t,os'⟩:=s';obtain rfl:os'=s.os:=os;have J:=I.call (h':=hh) (g':=g) (d':=d) (t':=t) (ch:=[]) un hok bare (fun b z=>absurd z (by simp));show wpAny (model P w) _ (leaving _ (.ref ea)) _ _ _;have go:=wpAny_leaves_onW (M:=model P w) (E:=fun _ _=>False) (base:=Bh) (L:=s₀.heap.objs.size) (Q:=fun _ s'=>∃h',Wv Bh outer ea (.ref C) a0 h'/\hh.UpToSlots h'/\s'=⟨h',g,d,t,s.os⟩) I.ok.frames rfl fl fun h' f1 f2=>⟨h',f1,f2,rfl⟩;refine wpAny_mono (oF (wB _ _) go) (fun _ s2 z=>?_) fun _ _ z=>z.elim;obtain⟨⟨h'',Iv,sl,rfl⟩,dk⟩:=z;have neL:∀b o,s₀.heap.get? b=some o->∃o1,s.heap.get? b=some o1:=fun b o e=>I.base.there b o e (fun z=>nomatch z);obtain ⟨u1,u2,u3⟩:=J.out (h'':=h'') (Bh:=Bh) rfl (fun b o q hb hh=>hB b o q (hh.imp (fun z=>by obtain⟨o0,e0⟩:=UN.mp z;obtain⟨o1,e1⟩:=neL b o0 e0;rw[e1];rfl) id) hb) Iv.1 sl
 obtain⟨o2,e2,d2⟩:=dk ea oe he;exact⟨ea,a0,Bh,H',dx,rfl,J.os,bare,u1,u2,Iv,⟨o2,e2,d2.trans hd⟩,u3,hE⟩
end
end L2
namespace Br
open PySem PySem.Spec PyProof.Rows L2
noncomputable abbrev nS(m:Int):HO:=.xd [("moment",.int m)]
def Cn(C:Addr)(X:Cx)(E:L2.St->XK):Prop:=∀(Ju:List (Addr×Obj)) (σ:L2.St) (H:Hp) (s:Shared) (e:Value) (s':Shared),Inv X Ju σ H s->CXF X.prog X.w C X.stack H s (E σ) e s'->X.xe e s'
def tZe(C:Addr)(m:Int)(E:L2.St->XK)(R:Dm.Env->Option Dm.Env)(σ:L2.St)(H:Hp):Prop:=∃H0 ρ ρ',aW H0 H σ ρ/\R ρ=some ρ'/\∀d H0' H',ESt σ ρ H0 H ρ' H0' H'->H d=none->H0' d=some (nS m)->E σ (.ref C) (some d) H'
def tZ(C:Addr)(m:Int)(E:L2.St->XK)(R:Dm.Env->Option Dm.Env)(σ:L2.St)(H:Hp):Prop:=∃H0 ρ ρ',aW H0 H σ ρ/\R ρ=some ρ'/\∀σ' d H0' H',SSt σ ρ H0 H σ' ρ' H0' H'->H d=none->H0' d=some (nS m)->E σ' (.ref C) (some d) H'
def spF(C:Addr)(m:Int)(bad:List Dat->Bool):Sp:=fun vs H _ E=>∃H0 ds,bg H0 H/\bz H0 vs ds/\bad ds=true/\∀d H0' H',bA H0 H H0' H'->H d=none->H0' d=some (nS m)->E (.ref C) (some d) H'
noncomputable abbrev ZE(X:Cx)(C:Addr)(m:Int)(E:L2.St->XK)(e:Expr)(R:Dm.Env->Option Dm.Env):Prop:=PE X e (fun σ H _=>tZe C m E R σ H)
noncomputable abbrev ZS(X:Cx)(C:Addr)(m:Int)(E:L2.St->XK)(st:Stmt)(R:Dm.Env->Option Dm.Env):Prop:=PS X st (fun _ σ H=>tZ C m E R σ H)
noncomputable abbrev ZB(X:Cx)(C:Addr)(m:Int)(E:L2.St->XK)(sts:List Stmt)(R:Dm.Env->Option Dm.Env):Prop:=PSs X sts (fun _ σ H=>tZ C m E R σ H)
theorem Jb{H1 H2 Hb H0' H':Hp}{d:Addr}{o:HO}(s:bg H1 Hb)(g:bA H2 Hb H0' H')(n:Hb d=none)(q:H0' d=some o):bA H1 Hb (upd H1 d o) H':=by
 have n1:H1 d=none:=s.free n;refine⟨fun a u e=>?_,g.s1,fun a u e=>?_,fun a u e=>?_⟩
 ·rw[aJ fun z=>by rw[z,n1]at e;cases e];exact e
 ·by_cases z:a=d
  ·subst z;exact .inl n
  ·rw[aJ z]at e;exact .inr e
 ·by_cases z:a=d
  ·subst z;rw[aL]at e;cases e;exact g.s3 _ _ q
  ·rw[aJ z]at e;exact g.s1 _ _ (s _ _ e)
section
variable{X:Cx}{C:Addr}{m:Int}{E:L2.St->XK}{k:Nat}{F:Addr}{fd:FuncData}{ps:List Str}{x:Str}{p pos:Pos}{e:Expr}{es:List Expr}{fs:List FE}{bad:List Dat->Bool}{R S:Dm.Env->Option Dm.Env}{st:Stmt}{sts L8:List Stmt}
section
variable{σ:L2.St}{H:Hp}{t:FT}
theorem tZ.ex(h:tZ C m E R σ H):tZe C m E R σ H:=by obtain⟨H0,ρ,ρ',st,e,k⟩:=h;exact⟨H0,ρ,ρ',st,e,fun d H0' H' t n q=>k σ d H0' H' t.sst n q⟩
theorem LU{Ju:List (Addr×Obj)}{σ:L2.St}{H:Hp}{s:Shared}{Q:VK}{us:List Value}{vs:List V}(G:cF X.prog X.w X.K X.mg X.base (CXF X.prog X.w C) k F fd ps (spF C m bad))(hr:cS k X.A)(hb:Binds X.K fd ps [])(hx:Cn C X E)
  (I:Inv X Ju σ H s) (r:Vals vs us) (h:spF C m bad vs H Q (E σ)):wpAny (model X.prog X.w) X.A (call (.ref F) us) (EP X Ju σ Q) X.xe s:=by
 have hl:(us++[]).length=ps.length:=by rw[U3,<- r.length];exact G.len _ _ _ _ h
 have hb':=hb s us I.kIn hl;rw[U3]at hb';refine wpAny_call (codeAny_mono (G.run X.A X.stack s H ⟨us,[]⟩ us vs Q (E σ) hr I.Hz hb' r h) fun r s' hq=>?_);rcases r with e | (_ | _ | _ | u)
 ·exact hx Ju σ H s e s' I hq
 ·exact hq.elim
 ·exact hq.elim
 ·exact hq.elim
 ·exact I.after hq
theorem LV(h:tZe C m E (Dm.jd bad fs) σ H)(Q:VK):tDA fs σ H fun vs H1=>spF C m bad vs H1 Q (E σ):=by
 obtain⟨H0,ρ,ρ',st,hR,k⟩:=h;unfold Dm.jd at hR;split at hR
 ·cases hR
 rename_i xs ρ1 e1;split at hR
 ·cases hR
 rename_i ds p1;split at hR
 case isFalse=>cases hR
 rename_i hbad;cases hR;refine⟨H0,ρ,xs,ρ',st,e1,fun vs H1 Hb t1 r1=>?_⟩;obtain⟨ρ2,e2⟩:=mG p1;obtain⟨H2,t2,b2,r2⟩:=takes t1 (bg.refl _) r1 e2;refine⟨H2,ds,t2.st.same,r2,hbad,fun d H0' H' g n q=>?_⟩;exact k d _ H' (t1.trans (.grow t1.st (Jb t1.st.same g n q))) (t1.stp.gone n) aL
theorem Jc(G:cF X.prog X.w X.K X.mg X.base (CXF X.prog X.w C) k F fd ps (spF C m bad))(hr:cS k X.A)(hg:Gl X x)(hm:X.mg x=some (.ref F))(hk:Ut X.K (.ref F)=true)(hb:Binds X.K fd ps [])(hx:Cn C X E)
  (ha:DA X (e::es) fs) (RQ:(x == ("__debug__" : Str))=false:=by decide) (he:starEach (e::es) X.env=(false,eval e X.env)::starEach es X.env:=by rfl) (RN:(backTo pos (starEach es X.env)).any (·.1)=false:=by rfl) :
  ZE X C m E (.Call (.Name x p) (e::es) [] pos) (Dm.jd bad fs):=by
 intro Ju s σ H Q I h;refine wpAny_Call_Name_kw (g8 I hg hm ?_ RQ);refine Wh (h₀:=X.base) I.ok.mod.kin hk (thn (ha pos Ju s σ H _ I (LV h Q)) fun us s1 ⟨vs,H1,I1,r,q⟩=>⟨I1.kIn,?_⟩) he RN;exact LU G hr hb hx I1 r q
theorem Jd(h:ZE X C m E e R)(hs:swapsWith e none pos.line X.env=pure false:=by rfl):ZS X C m E (.Expr e pos) R:=PS.weak (tF h hs) fun _ _ _ q=>q.ex
theorem Co(h:ZS X C m E st R):ZB X C m E (st::L8) R:=by have:=B4 (L8:=L8) h;exact fun Ju s σ H D I q=>this Ju s σ H D I q
theorem E4{f:FS}(h1:DS X st f)(h2:ZB X C m E L8 R):ZB X C m E (st::L8) (Dm.u_ f R):=PSs.weak (nV h1 h2) fun D σ H q=>by
 obtain⟨H0,ρ,ρ',rs,e,k⟩:=q;unfold Dm.u_ at e;split at e
 case h_2=>cases e
 rename_i ρ1 hs;exact⟨H0,ρ,_,rs,hs,fun σ' H0' H' t=>⟨H0',ρ1,ρ',t.st,e,fun σ'' d qP H'' u n w=>k σ'' d qP H'' (t.trans u) (t.stp.gone n) w⟩⟩
theorem TH:ZB X C m E sts Dm.rNo:=fun Ju s σ H D I h=>by obtain⟨_,_,_,_,e,_⟩:=h;cases e
theorem RH(h:tZ C m E (Dm.rIf t R S) σ H):tDT t σ H fun b H1=>if b=true then tZ C m E R σ H1 else tZ C m E S σ H1:=by
 obtain⟨H0,ρ,ρ',rs,e,k⟩:=h;unfold Dm.rIf at e;split at e
 ·cases e
 ·rename_i ρ1 ht;exact⟨H0,ρ,true,ρ1,rs,ht,fun H0' H' u=>by show (if true=true then _ else _);rw[if_pos rfl];exact⟨H0',ρ1,ρ',u.st,e,fun σ'' d qP H'' w n q=>k σ'' d qP H'' (u.sst.trans w) (u.stp.gone n) q⟩⟩
 ·rename_i ρ1 ht;exact⟨H0,ρ,false,ρ1,rs,ht,fun H0' H' u=>by show (if false=true then _ else _);rw[if_neg (by decide)];exact⟨H0',ρ1,ρ',u.st,e,fun σ'' d qP H'' w n q=>k σ'' d qP H'' (u.sst.trans w) (u.stp.gone n) q⟩⟩
theorem TJ{c:Expr}{a b:List Stmt}(hc:DT X c t)(ha:ZB X C m E a R)(hb:ZB X C m E b S):ZS X C m E (.If c a b pos) (Dm.rIf t R S):=PS.weak (Hg hc ha hb) fun _ _ _ q=>RH q
end
end
theorem Je{C:Addr}{m:Int}{E:XK}{f:FE}{σ:L2.St}{H:Hp}(h:tZ C m (fun _=>E) (Dm.vc f m) σ H) :
  tD f σ H fun v H1=>∃i:Int,[v]=[V.int i]/\∀d,H1 d=none->E (.ref C) (some d) (upd H1 d (nS i)):=by
 obtain⟨H0,ρ,ρ',st,e,k⟩:=h;unfold Dm.vc at e;split at e
 case h_2=>cases e
 rename_i i ρ1 hf;split at e
 case isFalse=>cases e
 rename_i hm;subst hm;cases e;refine⟨H0,ρ,_,_,st,hf,fun v H0' H' t r=>?_⟩;have r':Rep H0' v (.int i):=r;cases r';exact⟨i,rfl,fun d n=>k σ d (upd H0' d (nS i)) (upd H' d (nS i)) (t.sst.trans (ESt.grow t.st (bA.BJ t.st.same n)).sst) (t.stp.gone n) aL⟩
section
variable{P:Program}{w:World}{K:gc}{mg:Str->Option Value}{base:Heap}{N:List Str}{qual:Str}{scope:Scope}{f:Addr}{cd:Value}{A:Around}{outer:List Env}{s₀:Shared}{H₀:Hp}{E:XK}{C:Addr}{m:Int}
theorem RI:Cn C (dD (CXF P w C) P w K mg base N qual scope f cd A outer s₀ H₀ E) (fun _=>E):=fun Ju σ H s e s' I q=>RG Ju σ H s e s' I q
theorem LW{x:Str}{fI:Addr}{bmB:List Value}{B newId initId:String}{np cpos pos:Pos}{e:Expr}{fe:FE}{k:Nat}{fd:FuncData}{ps:List Str}
  (hc:(dD (CXF P w C) P w K mg base N qual scope f cd A outer s₀ H₀ E).calm=true) (O:Gu x C fI bmB newId K mg base) (FB:ExcBaseFacts B newId initId bmB) (hg:Gl (dD (CXF P w C) P w K mg base N qual scope f cd A outer s₀ H₀ E) x)
  (G:cF P w K mg base CX0 k fI fd ps (ve C)) (hr:cS (k+1) (dD (CXF P w C) P w K mg base N qual scope f cd A outer s₀ H₀ E).A) (hb:Binds K fd ps []) (he:DE (dD (CXF P w C) P w K mg base N qual scope f cd A outer s₀ H₀ E) e fe)
  (RQ:(x == ("__debug__" : Str))=false:=by decide) (hs:starEach [e] (dD (CXF P w C) P w K mg base N qual scope f cd A outer s₀ H₀ E).env=(false,eval e (dD (CXF P w C) P w K mg base N qual scope f cd A outer s₀ H₀ E).env)::starEach [] (dD (CXF P w C) P w K mg base N qual scope f cd A outer s₀ H₀ E).env:=by rfl)
  (RN:(backTo cpos (starEach [] (dD (CXF P w C) P w K mg base N qual scope f cd A outer s₀ H₀ E).env)).any (·.1)=false:=by rfl) :
  ZS (dD (CXF P w C) P w K mg base N qual scope f cd A outer s₀ H₀ E) C m (fun _=>E) (.Raise (some (.Call (.Name x np) [e] [] cpos)) none pos) (Dm.vc fe m):=
 PS.weak (Gv (post:=fun _ i H1=>∀d,H1 d=none->E (.ref C) (some d) (upd H1 d (nS i))) rfl hc hg O FB G hr hb he (fun Ju σ H1 s ea d t0 sl i I hp nd hea n0 nH ne=>Ja I hea n0 (by rw[aJ (Vl ne)];exact nH) (hp d nd)) RQ hs RN) fun _ _ _ q=>Je q
end
section
variable{R:Dm.Env->Option Dm.Env}{C:Addr}{vs:List V}{n m:Nat}{H:Hp}{i:Int}{E:XK}{Q:VK}
theorem E5(h:spF C i (Dm.fnX n m R) vs H Q E):vs.length=n:=by obtain⟨H0,ds,s,rs,e,k⟩:=h;unfold Dm.fnX at e;rw[U9,decide_eq_true_eq]at e;rw[rs.length];exact e.1
theorem RJ{N:List Str}(hm:N.length=n+m)(h:spF C i (Dm.fnX n m R) vs H Q E):tZ C i (fun _=>E) R (start N vs) H:=by have hvn:=E5 h;obtain⟨H0,ds,s,rs,e,k⟩:=h;unfold Dm.fnX at e;rw[U9]at e;obtain⟨st,no⟩:=B5 hm hvn s rs;obtain⟨ρ',hR⟩:=UN.mp e.2;exact⟨H0,_,ρ',st,hR,fun σ' d H0' H' t n q=>k d H0' H' ⟨t.stp.s0,fun a o e=>t.stp.s1 a o e (no a),fun a o e=>(t.stp.s2 a o e).imp id fun q=>q.elim id fun z=>absurd z (no a),t.st.same⟩ n q⟩
theorem okZ{P:Program}{w:World}{K:gc}{mg:Str->Option Value}{base:Heap}{x qual:Str}{st:Stmt}{f C:Addr}{i:Int}{fd:FuncData}{N ps:List Str}{k n m:Nat}{R:Dm.Env->Option Dm.Env}(F:Fun K x qual st f fd)(S:br N ps (aG st))(hn:ps.length=n)(hm:N.length=n+m)
  (hbody:∀(cdv:Value) (A:Around) (outer:List Env) (s:Shared) (H:Hp) (E:XK),cS k (A.deeper (envOfC qual (aG st) s.heap.objs.size f cdv))->ZB (dD (CXF P w C) P w K mg base N qual (aG st) f cdv A outer s H E) C i (fun _=>E) (bR st) R) :
  cF P w K mg base (CXF P w C) (k+1) f fd ps (spF C i (Dm.fnX n m R)):=by
 obtain⟨oc,od,kV,doc,pm,an,cdv,ct,osl,rfl,lk,Sl⟩:=F.ex;refine Er lk Sl S (fun vs H Q E h=>(E5 h).trans hn.symm) fun A outer s H vs Q E hr hsp=>?_;exact⟨_,hbody cdv A outer s H E hr,RJ hm hsp⟩
def E6(X:Cx)(C:Addr)(hs hs':List ExceptHandler):Prop:=∀(Ju:List (Addr×Obj)) (σ:L2.St) (H:Hp) (ea:Addr) (h:Heap) (g:Array GenState) (d:Drawn) (t:Nat) (os:OsState) (Q:Flow->Shared->Prop),
 Inv X Ju σ H ⟨h,g,d,t,os⟩->(∃o,h.get? ea=some o/\o.cls=.ref C)->wpAny (model X.prog X.w) X.A (handleBy (.ref ea) X.env hs') Q X.xe ⟨h,g,d,t,os⟩->wpAny (model X.prog X.w) X.A (handleBy (.ref ea) X.env hs) Q X.xe ⟨h,g,d,t,os⟩
theorem E6.refl{X:Cx}{hs:List ExceptHandler}:E6 X C hs hs:=fun _ _ _ _ _ _ _ _ _ _ _ _ w=>w
theorem φXF_ok{P:Program}{w:World}{h:Heap}{ea C d:Addr}{o:Obj}(e:h.get? ea=some o)(c:o.cls=.ref C)(k:o.dict=some d)(n:∀c,o.data≠.cls c):bZ P w H h ea (φXF ea C d):=by refine⟨⟨o,e,c,k,n⟩,⟨o,e⟩,fun h1 h2 ⟨o1,e1,c1,k1⟩ z=>⟨o1,z _ e1,c1,k1⟩⟩
end
section
variable{X:Cx}{Ju pn:List (Addr×Obj)}{σ:L2.St}{H:Hp}{s:Shared}{xe:Value->Shared->Prop}
theorem Pb{x n:Str}{np hpos pos:Pos}{body suite:List Stmt}{b₀:Stmt}{R:Dm.Env->Option Dm.Env}{h:FS}{C CP:Addr}{m:Int}{ie:Nat}{hs hr:List ExceptHandler}{h1:ExceptHandler}
  (hst:X.stack=X.env::X.outer) (hfr:X.env.frame=some X.env.locals) (hex:X.ex=[]) (hN:X.N.Nodup) (hi:X.N[ie]?=some n) (hk:X.env.kindOf n=some .local) (hg:Gl X x) (hm:X.mg x=some (.ref CP)) (Z:PySem.W.mT X.K C CP)
  (hb:∀(pn:List (Addr×Obj)) (xe:Value->Shared->Prop) (E:L2.St->XK),Cn C (Cx.in' X pn xe) E->ZB (Cx.in' X pn xe) C m E body R)
  (hl:E6 X C (h1::hs) (.ExceptHandler (some (.Name x np)) (some n) (b₀::suite) hpos::hr))
  (hh:∀(A':Around) (xe:Value->Shared->Prop),DSs (Cx.sub' X A' xe) (b₀::suite) h) (RQ:(x == ("__debug__" : Str))=false:=by decide) :
  DS X (.Try body (h1::hs) [] [] pos) (Dm.tW R (.cz C m) ie h):=by
 intro Ju s σ H D I hq;obtain⟨H0,ρ,o,st,e,ok⟩:=hq;unfold Dm.tW at e;split at e
 ·cases e
 rename_i ρ1 hR;split at e
 ·cases e
 rename_i h0;refine wpAny_Try_except ?_;refine wpAny_mono (hb Ju (fun e s₁=>wpAny (model X.prog X.w) X.A (noteFrame e X.env) (fun _ s₂=>wpAny (model X.prog X.w) X.A (setFlight e none) (fun _ s₃=>wpAny (model X.prog X.w) X.A (handleBy e X.env (h1::hs)) (SP X Ju D) X.xe s₃) X.xe s₂) X.xe s₁)
  (fun σ' _ od H'=>∃H0' dd,od=some dd/\H0' dd=some (nS m)/\SSt σ ρ H0 H σ' ρ1 H0' H') ?pass [] s σ H DF (Du I) ⟨H0,ρ,ρ1,st,hR,fun σ' a H0' H' t n q=>⟨H0',a,rfl,q,t⟩⟩) ?q fun _ _ z=>z
 case q=>
  intro f s1 z;cases f with
  |next=>obtain⟨_,_,_,q⟩:=z;exact UH q
  |ret v=>obtain⟨_,_,_,_,_,q⟩:=z;exact UH q
  |brk=>obtain⟨_,_,_,q⟩:=z;exact UH q
  |cont=>obtain⟨_,_,_,q⟩:=z;exact UH q
 case pass=>
  intro RC σ1 H1 s1 e s' I1 hq;obtain⟨ea,a0,B,H',dd,rfl,os,bare,un,hok,fl,⟨oD,heD,hdD⟩,hB,H0',_,hdd,hfd,t1⟩:=hq;cases hdd;obtain⟨hh',g,d,t,os'⟩:=s';obtain rfl:os'=s1.os:=os;have J:Inv X Ju σ1 H' ⟨hh',g,d,t,s1.os⟩:=kZ (I1.call (h':=hh') (g':=g) (d':=d) (t':=t) (ch:=[]) un hok bare (fun b z=>absurd z (by simp)));have J1:Inv X Ju σ1 H1 s1:=kZ I1;have DC:∀b o,X.s₀.heap.get? b=some o->∃o1,s1.heap.get? b=some o1:=fun b o e=>J1.base.there b o e (by rw[hex];exact fun z=>nomatch z);have hB':∀b o,hh'.get? b=some o->b∉frs X.stack->((X.s₀.heap.get? b).isSome=true\/(H' b).isSome=true\/∃p∈X.pn++Ju,p.1=b)->B.get? b=some o:=fun b o e nb hc=>by
   refine hB b o e ?_ nb;rcases hc with hc | hc | ⟨p,hp,rfl⟩
   ·obtain⟨o0,e0⟩:=UN.mp hc;obtain⟨o1,e1⟩:=DC b o0 e0;exact .inl (by rw[e1];rfl)
   ·exact .inr hc
   ·exact .inl (by rw[(J1.pin p hp).1];rfl)
  have hfs:X.A.frames=some (X.env::X.outer):=by rw[J.ok.frames,hst]
  have fl':Wv B (X.env::X.outer) ea (.ref C) a0 hh':=by rw[<- hst];exact fl
  show wpAny (model X.prog X.w) X.A (noteFrame (.ref ea) X.env) _ _ _;refine wpAny_mono (oF (Cm _ _) (wpAny_looks_onW (M:=model X.prog X.w) (E:=X.xe) (base:=B) (L:=X.env.locals) (Q:=fun _ s'=>∃h4,Heap.HeldW B (X.env::X.outer) ea (.ref C) a0 X.env.locals h4/\hh'.UpToSlots h4/\s'=⟨h4,g,d,t,s1.os⟩) hfs hfr fl' fun h4 held sl4=>⟨h4,held,sl4,rfl⟩)) (fun _ s4 z4=>?_) fun _ _ z=>z;obtain⟨⟨h4,held,sl4,rfl⟩,dk4⟩:=z4;refine wpAny_mono (oF (qS _ _) (wpAny_landsW (M:=model X.prog X.w) (E:=X.xe) (Q:=fun _ s'=>∃h5,Wv B (X.env::X.outer) ea (.ref C) a0 h5/\h4.UpToSlots h5/\s'=⟨h5,g,d,t,s1.os⟩) held fun h5 fl5 sl5=>⟨h5,fl5,sl5,rfl⟩)) (fun _ s5 z5=>?_) fun _ _ z=>z;obtain⟨⟨h5,fl5,sl5,rfl⟩,dk5⟩:=z5;have J5:Inv X Ju σ1 H' ⟨h5,g,d,t,s1.os⟩:=J.fly (t':=t) hex hB' fl5.1 (sl4.trans sl5);obtain⟨oe,vs,he,hc,hd,_⟩:=fl'.first
  have neF:ea∉frs X.stack:=fun z=>by rw[hst]at z;obtain⟨_,o',ho',hd'⟩:=fl'.2.2.1.mem z;rw[he]at ho';cases ho';exact hd' vs hd
  have noB:B.get? ea=none:=fl'.2.1;have nH:H' ea=none:=by
   cases q:H' ea with
   |none=>rfl
   |some u=>have:=hB' ea oe he neF (.inr (.inl (by rw[q];rfl)));rw[noB]at this;cases this
  have n0:X.s₀.heap.get? ea=none:=by
   cases q:X.s₀.heap.get? ea with
   |none=>rfl
   |some u=>have:=hB' ea oe he neF (.inl (by rw[q];rfl));rw[noB]at this;cases this
  have nl:ea≠X.env.locals:=fun z=>by obtain⟨m,⟨o,es,ep,ho,hd',_⟩,_⟩:=J.loc;rw[<- z,he]at ho;cases ho;rw[hd]at hd';cases hd'
  have nc:∀y c,X.env.cells.lookup y=some c->c≠ea:=fun y c e z=>by obtain⟨v,o,ho,hd'⟩:=J.cell y c e;rw[z,he]at ho;cases ho;rw[hd]at hd';cases hd'
  have np:∀p∈X.pn++Ju,p.1≠ea:=fun p hp z=>by have:=hB' ea oe he neF (.inr (.inr ⟨p,hp,z⟩));rw[noB]at this;cases this
  have hB5:∀b o,h5.get? b=some o->b∉frs X.stack->((X.s₀.heap.get? b).isSome=true\/(H' b).isSome=true\/∃p∈X.pn++Ju,p.1=b)->B.get? b=some o:=fun b o e nb Sl=>by
   have:∃o',hh'.get? b=some o':=by
    rcases Sl with hc | hc | ⟨p,hp,rfl⟩
    ·obtain⟨o0,e0⟩:=UN.mp hc;exact J.base.there b o0 e0 (by rw[hex];exact fun z=>nomatch z)
    ·obtain⟨u,e0⟩:=UN.mp hc;exact(J.hok b u e0).there
    ·exact⟨_,(J.pin p hp).1⟩
   obtain⟨o',e'⟩:=this;have q:=hB' b o' e' nb Sl;have q2:=fl5.1 b o' q;rw[e]at q2;cases q2;exact q
  obtain⟨oe5,he5,hc5⟩:=fl5.there;refine hl Ju σ1 H' ea h5 g d t s1.os _ J5 ⟨oe5,he5,hc5⟩ ?_;refine wpAny_handleBy_cons (codeAny_handlers_test ?_) (by intro q;cases q);refine g8 (X:=Cx.sub' X (X.A.mark (some (.ref ea))) X.xe) (xP rfl J5) hg hm ?_ RQ;refine PySem.W.wo Z J5.kIn ⟨oe5,he5,hc5⟩ ?_;refine codeAny_handlers_suite_as ?_;refine wpAny_mono (oF (qS _ _) (lands_againW (M:=model X.prog X.w) (E:=notedBy (model X.prog X.w) (X.A.mark (some (.ref ea))) X.env _) (Q:=fun _ s'=>∃h6,Wv B (X.env::X.outer) ea (.ref C) a0 h6/\h5.UpToSlots h6/\s'=⟨h6,g,d,t,s1.os⟩) fl5 fun h6 fl6 sl6=>⟨h6,fl6,sl6,rfl⟩)) (fun _ s6 z6=>?_) fun _ _ z=>z;obtain⟨⟨h6,fl6,sl6,rfl⟩,dk6⟩:=z6;have J6:Inv X Ju σ1 H' ⟨h6,g,d,t,s1.os⟩:=J5.fly (t':=t) hex hB5 fl6.1 sl6;obtain⟨oe6,he6,hc6⟩:=fl6.there;have hd6:oe6.dict=some dd:=by obtain⟨o4,e4,d4⟩:=dk4 ea oD heD;obtain⟨o5,e5,d5⟩:=dk5 ea o4 e4;obtain⟨o6,e6,d6⟩:=dk6 ea o5 e5;rw[he6]at e6;cases e6;exact d6.trans (d5.trans (d4.trans hdD))
  have hn6:∀c,oe6.data≠.cls c:=by
   obtain⟨oq,vq,hq1,_,hq2,_⟩:=fl6.first
   rw[he6]at hq1;cases hq1;intro c z;rw[hq2]at z;cases z
  have ned:dd≠ea:=fun z=>by rw[<- z,t1.st.same _ _ hfd]at nH;cases nH
  have J7:=J6.Ag (o:=φXF ea C dd) nH (φXF_ok he6 hc6 hd6 hn6) n0 nl nc np;refine uV J7 hN hi (.inl hk) (v:=.ref ea) rfl (fun s8 J8 _=>?_) (.inr hk);have t12:SSt σ ρ H0 H σ1 ρ1 (upd H0' ea (φXF ea C dd)) (upd H' ea (φXF ea C dd)):=t1.trans (ESt.grow t1.st (bA.BJ t1.st.same nH)).sst;have rep:Rep (upd H0' ea (φXF ea C dd)) (V.ref ea) (.cz C m):=.cz aL ((aJ ned).trans hfd);have A8:SSt σ1 ρ1 (upd H0' ea (φXF ea C dd)) (upd H' ea (φXF ea C dd)) (σ1.set ie (some (.ref ea))) (ρ1.set ie (.sh (.cz C m))) (upd H0' ea (φXF ea C dd)) (upd H' ea (φXF ea C dd)):=
   ⟨t12.st.x_ rep,Stp.refl _ _ _,fun a z=>.inl (jb z),gV h0⟩
  have R1:∀(oh:Dm.Out),h (ρ1.set ie (.sh (.cz C m)))=some oh->(∀(D':Ends),(∀σ' H3,(∃ρ' H03,oh=.nx ρ'/\SSt (σ1.set ie (some (.ref ea))) (ρ1.set ie (.sh (.cz C m))) (upd H0' ea (φXF ea C dd)) (upd H' ea (φXF ea C dd)) σ' ρ' H03 H3)->D'.nx σ' H3)->(∀v H3,(∃z ρ' σ' H03,oh=.ret z ρ'/\SSt (σ1.set ie (some (.ref ea))) (ρ1.set ie (.sh (.cz C m))) (upd H0' ea (φXF ea C dd)) (upd H' ea (φXF ea C dd)) σ' ρ' H03 H3/\BK (σ1.set ie (some (.ref ea))) (ρ1.set ie (.sh (.cz C m))) (upd H' ea (φXF ea C dd)) H03 H3 v z/\∀d a,z=.new d->v=.ref a->¬aV σ' ρ' a)->D'.rt v H3)->(∀ρ',oh≠.bk ρ')->(∀ρ',oh≠.ct ρ')->wg D' (σ1.set ie (some (.ref ea))) (ρ1.set ie (.sh (.cz C m))) (upd H0' ea (φXF ea C dd)) (upd H' ea (φXF ea C dd)) oh):=fun oh _ D' hn hr hb hc=>by
   cases oh with
   |nx ρ'=>exact fun σ' H03 H3 tt=>hn σ' H3 ⟨ρ',H03,rfl,tt⟩
   |bk ρ'=>exact absurd rfl (hb ρ')
   |ct ρ'=>exact absurd rfl (hc ρ')
   |ret z ρ'=>exact fun σ' v H03 H3 tt rr no=>hr v H3 ⟨z,ρ',σ',H03,rfl,tt,rr,no⟩
  cases hoh:h (ρ1.set ie (.sh (.cz C m))) with
  |none=>rw[hoh]at e;cases e
  |some oh=>
  rw[hoh]at e;have nb:∀ρ',oh≠.bk ρ':=fun ρ' z=>by rw[z]at e;cases e
  have nc':∀ρ',oh≠.ct ρ':=fun ρ' z=>by rw[z]at e;cases e
  refine wpAny_mono (hh (X.A.mark (some (.ref ea))) _ Ju s8 _ _ { nx:=fun σ' H3=>∃ ρ' H03,oh=.nx ρ'∧SSt (σ1.set ie (some (.ref ea))) (ρ1.set ie (.sh (.cz C m))) (upd H0' ea (φXF ea C dd)) (upd H' ea (φXF ea C dd)) σ' ρ' H03 H3,rt:=fun v H3=>∃ z ρ' σ' H03,oh=.ret z ρ'∧SSt (σ1.set ie (some (.ref ea))) (ρ1.set ie (.sh (.cz C m))) (upd H0' ea (φXF ea C dd)) (upd H' ea (φXF ea C dd)) σ' ρ' H03 H3∧BK (σ1.set ie (some (.ref ea))) (ρ1.set ie (.sh (.cz C m))) (upd H' ea (φXF ea C dd)) H03 H3 v z∧∀ d a,z=.new d→v=.ref a→¬ aV σ' ρ' a,bk:=fun _ _=>False,ct:=fun _ _=>False } (xP rfl J8)
   ⟨_,_,_,A8.st,hoh,R1 oh hoh _ (fun _ _ z=>z) (fun _ _ z=>z) nb nc'⟩) (fun f s4 z=>?_) fun _ _ z=>z
  cases f with
  |next=>obtain⟨σ',H3,I4,ρ',H03,rfl,tt⟩:=z;cases e;refine name_goes (qq J.ok I4) hN hi hk fun s9 J9=>?_;exact⟨σ'.set ie none,H3,J9,ok _ _ _ (t12.trans (A8.trans (tt.trans (SSt.drop tt.st h0))))⟩
  |ret v=>
   obtain⟨u,σ0,H3,I4,rl,z,ρ',σ',H03,rfl,tt,rr,no⟩:=z;cases e;refine name_goes (qq J.ok I4) hN hi hk fun s9 J9=>?_;refine⟨u,σ0.set ie none,H3,J9,rl,ok _ _ _ _ (t12.trans (A8.trans (tt.trans (SSt.drop tt.st h0)))) ?_ ?_⟩
   ·cases z with
    |val d=>exact rr
    |new d=>
     obtain⟨a,ea',n,n0',w⟩:=rr;refine⟨a,ea',?_,n0',w⟩;have tp:=t12.trans A8;rcases n with n | n
     ·exact .inl (tp.stp.gone n)
     ·exact(tp.own a n).symm
   ·intro d a hz hv ho;obtain⟨j,d',h1,h2⟩:=ho;refine no d a hz hv ?_;by_cases hj:ie=j
    ·subst hj;rw[VR]at h1;simp only[if_true]at h1;split at h1<;>cases h1
    ·rw[gV hj]at h1 h2;exact⟨j,d',h1,h2⟩
  |brk=>obtain⟨_,_,_,q⟩:=z;exact UH q
  |cont=>obtain⟨_,_,_,q⟩:=z;exact UH q
theorem Pc{st:Stmt}{R:Int->Dm.Env->Option Dm.Env}{h:FS}{C ie:Nat}(hb:∀m,DS X st (Dm.tW (R m) (.cz C m) ie h)):DS X st (Dm.yw R C ie h):=fun Ju s σ H D I q=>by
 obtain⟨H0,ρ,o,rs,e,k⟩:=q;unfold Dm.yw at e;split at e
 ·exact hb _ Ju s σ H D I ⟨H0,ρ,o,rs,e,k⟩
 ·cases e
end
end Br
namespace PySem.W
open PySem PySem.Spec PySem.Calls PyProof.Rows
section
variable{prog:Program}{w:World}{A:Around}{E:Value->Shared->Prop}{K:Frag}{x C:Addr}{ox:Obj}{od:Option Obj}{h:Heap}{g:Array GenState}{d:Drawn}{t:Nat}{os:OsState}{name:Str}{v:Value}{expr:Bool}
theorem Pd{Q:Value->Shared->Prop}(Z:mS K C)(X:K.In h)(I:InstAt h x ox C od)(hf:findObj K C od name=some (.value v))(hh:handedIn v=true)(hq:Q v ⟨h,g,d,t+1,os⟩) :
  wpAny (model prog w) A (getAttr (.ref x) name expr) Q E ⟨h,g,d,t,os⟩:=by
 have J:ym x C h:=⟨ox,I.at_,I.cls⟩
 have Lt:Looks (model prog w) h (typeOf (.ref x)) (.ref C):=I.type;have Lg:=looks_findIn (M:=model prog w) X Z.ga;have Ln:=looks_findIn (M:=model prog w) X Z.gn;have Lf:=looks_find (M:=model prog w) X I hf;have Lb:Looks (model prog w) h (bindSpecial (.builtin "BaseException.__getattribute__") (.ref x)) (.builtin "BaseException.__getattribute__",[.ref x]):=Xd (V3.ga.bind (.ref x));have hx:(onTheHeap (UU C)&&VH "BaseException.__getattribute__" == VH "object.__getattribute__")=false:=by
  have:(VH "BaseException.__getattribute__" == VH "object.__getattribute__")=false:=by decide +kernel
  rw[this,Yb]
 have hy:(expr&&onTheHeap (VH "BaseException.__getattribute__"))=false:=by cases expr<;>rfl
 unfold getAttr getAttrBy;refine wpAny_bind (wpAny_mkText (wpAny_holding (wpAny_bind (Lt.at (wpAny_bind (Lg.at ?_))))));show wpAny _ _ (if (onTheHeap (UU C)&&VH "BaseException.__getattribute__" == VH "object.__getattribute__")=true then _ else _) _ _ _;rw[hx,if_neg (by decide)];unfold getAttrByItsOwn hookBefore callGetattribute;rw[hy];refine wpAny_bind ?_;show wpAny _ _ (typeLookup _ _) _ _ _;refine Ln.at (wpAny_bind (wpAny_attempt (wpAny_holding ?_)));show wpAny _ _ (boundAndCalled _ _ _) _ _ _;unfold boundAndCalled;refine wpAny_bind (Lb.at ?_);refine wpAny_call (codeAny_call_builtin V3.ga.plain PySem.F.entry_bexc_ga (B6 Z X J ?_));unfold Builtin.«object.__getattribute__» slotArgs
 repeat lk
 show wpAny _ _ (handedOut v) _ _ _;rw[handedOut_of hh];exact wpAny_pure hq
end
end PySem.W
namespace Br
open PySem PySem.Spec PyProof.Rows L2
def TL(C:Addr)(ta:TE):TE:=fun σ H Q=>ta σ H fun x H1=>∃a d i,x=.ref a/\H1 a=some (φXF a C d)/\H1 d=some (nS i)/\Q (.int i) H1
section
variable{X:Cx}{C:Addr}{e:Expr}{f:FE}{pos:Pos}
theorem RK{σ:L2.St}{H:Hp}{Q:VK}(h:tD (Dm.e1 (Dm.Ck C) f) σ H Q):TL C (tD f) σ H Q:=by
 obtain⟨H0,ρ,x,ρ',st,e,k⟩:=h;unfold Dm.e1 at e;split at e
 ·cases e
 rename_i x1 ρ1 e1;split at e
 ·cases e
 rename_i dx p1;cases dx with
 |cz C' mv=>
  unfold Dm.Ck at e;dsimp only at e;by_cases hC:C'=C
  ·subst hC;rw[if_pos rfl]at e;cases e;refine⟨H0,ρ,x1,_,st,e1,fun v H1 Hb t1 r1=>?_⟩;have rv:Rep Hb v (.cz C' mv):=(r1.look t1.st p1).full t1.st.same;cases rv with
   |cz q qd=>exact⟨_,_,_,rfl,q,qd,k _ H1 Hb t1 (Rep.int _)⟩
  ·rw[if_neg hC]at e;cases e
 |_=>cases e
theorem Nb(Z:PySem.W.mS X.K C)(hd:W2 X.K C=true)(hf:Ug X.K (.ref C) "moment" = some none)(he:DE X e f)(hb:attributeBase e "moment" X.env (eval e X.env)=eval e X.env:=by rfl) :
  DE X (.Attribute e "moment" pos) (Dm.e1 (Dm.Ck C) f):=by
 intro Ju s σ H Q I h;refine Ky hb (thn (he Ju s σ H _ I (RK h)) fun u s1 ⟨x,H1,I1,rx,a,d,i,ex,ha,hd',q⟩=>?_);subst ex;obtain rfl:u=UU a:=rx;obtain⟨o,eo,co,do',no⟩:=(I1.hok a _ ha).1;obtain⟨mA,ns,rel⟩:=(show bZ X.prog X.w H1 s1.heap d (nS i) from I1.hok d _ hd')
 obtain⟨od,hod,hl⟩:=zW ns;have nc:PySem.W.notCls o=true:=by
  unfold PySem.W.notCls;split
  ·rename_i c hc;exact absurd hc (no c)
  ·rfl
 have J:PySem.W.InstAt s1.heap a o C (some od):=⟨eo,co,nc,by rw[do'];exact hod⟩
 obtain⟨u,hu,ru⟩:=C2.some_of (v:=.int i) (o:=mA "moment") (rel "moment");obtain⟨hp,g,dr,t,os⟩:=s1;exact PySem.W.Pd Z I1.kIn J (PySem.W.findObj_own hd hf rfl (by rw[hl,hu])) (FH ru) ⟨.int i,H1,I1.tok _,ru,q⟩
end
theorem LX{X:Cx}{x n:Str}{np hpos pos:Pos}{body suite:List Stmt}{b₀:Stmt}{R:Dm.Env->Option Dm.Env}{h:FS}{C CP:Addr}{m:Int}{ie:Nat}
  (hst:X.stack=X.env::X.outer) (hfr:X.env.frame=some X.env.locals) (hex:X.ex=[]) (hN:X.N.Nodup) (hi:X.N[ie]?=some n) (hk:X.env.kindOf n=some .local) (hg:Gl X x) (hm:X.mg x=some (.ref CP)) (Z:PySem.W.mT X.K C CP)
  (hb:∀(pn:List (Addr×Obj)) (xe:Value->Shared->Prop) (E:L2.St->XK),Cn C (Cx.in' X pn xe) E->ZB (Cx.in' X pn xe) C m E body R)
  (hh:∀(A':Around) (xe:Value->Shared->Prop),DSs (Cx.sub' X A' xe) (b₀::suite) h) (RQ:(x == ("__debug__" : Str))=false:=by decide) :
  DS X (.Try body [.ExceptHandler (some (.Name x np)) (some n) (b₀::suite) hpos] [] [] pos) (Dm.tW R (.cz C m) ie h):=Pb hst hfr hex hN hi hk hg hm Z hb E6.refl hh RQ
section
variable{C:Addr}{m:Int}{E:L2.St->XK}{D:Ends}{σ:L2.St}{H:Hp}{R:Dm.Env->Option Dm.Env}
theorem Pe{fi:Dm.FI}{bd:Dm.FB}{g:TG}{body:FS}{is:List Nat}(hb:BD is g bd)(h:tZ C m E (Dm.Gn fi bd body R) σ H):NT (tDI fi) g (fun D σ H=>tDS body D σ H\/tZ C m E R σ H) D σ H:=by
 obtain⟨H0,ρ,ρ',st,e,k⟩:=h;unfold Dm.Gn at e;split at e
 ·cases e
 rename_i ys ρ1 e1;refine⟨H0,ρ,ys,ρ1,st,e1,fun J H00 Hb t1 jw=>?_⟩;refine ⟨fun i j σ H=>∃ H0 ρ,aW H0 H σ ρ∧bg H00 H0∧j=ys.length-i∧Dm.qJ bd body R (ys.drop i) ρ=some ρ'∧∀ σ' d H0' H',SSt σ ρ H0 H σ' ρ' H0' H'→H d=none→H0' d=some (nS m)→E σ' (.ref C) (some d) H',
  ⟨ys.length,H00,ρ1,t1.st,bg.refl _,by simp,by simpa using e,fun σ' d H0' H' t n q=>k σ' d H0' H' (t1.sst.trans t) (t1.stp.gone n) q⟩,?_⟩
 rintro i j σ H ⟨H0,ρ,st,s00,rfl,e,k⟩;obtain⟨js,jg⟩:=jw H0 H s00 st.same;by_cases RO:i<ys.length
 case neg=>rw[Xa (by lia)]at e;cases e
 obtain⟨g1,g2⟩:=jg i ys[i] (by simp[RO]);rw[VD RO]at e;unfold Dm.qJ at e;refine .inr ⟨g1,fun σ' H'=>∃H0 ρ,aW H0 H' σ' ρ/\bg H00 H0/\Dm.qJ bd body R (ys.drop (i+1)) ρ=some ρ'/\∀σ'' d H0' H'',SSt σ' ρ H0 H' σ'' ρ' H0' H''->H' d=none->H0' d=some (nS m)->E σ'' (.ref C) (some d) H'',?_,fun x H' y=>?_⟩
 ·rintro σ' H' ⟨H0',ρ2,h1,h2,h3,h4⟩;exact⟨ys.length-(i+1),by lia,H0',ρ2,h1,h2,rfl,h3,h4⟩
 obtain⟨H0',gr,rx⟩:=g2 x H' y;split at e
 ·cases e
 rename_i ρ2 e2;have t2:=ESt.grow st gr;refine hb H0' H' σ ρ ρ2 x ys[i] _ t2.st rx e2 fun σ2 st2 o2 _ _ f2=>?_;have t3:SSt σ ρ H0 H σ2 ρ2 H0' H':=⟨st2,t2.stp,fun a z=>.inl (o2 a z),f2⟩
 have s3:bg H00 H0':=s00.trans gr.s0;split at e
 ·rename_i ρ3 e3;exact .inr ⟨H0',ρ2,ρ',st2,e3.trans e,fun σ4 d H4 Hd t4 n q=>k σ4 d H4 Hd (t3.trans t4) (t3.stp.gone n) q⟩
 ·split at e
  case h_2=>cases e
  rename_i ρ3 e3;exact .inl ⟨H0',ρ2,_,st2,e3,fun σ4 H4 Hd t4=>⟨H4,ρ3,t4.st,s3.trans t4.stp.s0,e,fun σ5 d H5 He t5 n q=>k σ5 d H5 He ((t3.trans t4).trans t5) ((t3.trans t4).stp.gone n) q⟩⟩
end
section
variable{P:Program}{w:World}{K:gc}{mg:Str->Option Value}{base:Heap}{N:List Str}{qual:Str}{scope:Scope}{f:Addr}{cd:Value}{A:Around}{outer:List Env}{s₀:Shared}{H₀:Hp}{E:XK}{C:Addr}{m:Int}
theorem RL{tg it:Expr}{fi:Dm.FI}{is:List Nat}{bd:Dm.FB}{body:List Stmt}{fs:FS}{R:Dm.Env->Option Dm.Env}{pos:Pos}(hi:DI (dD (CXF P w C) P w K mg base N qual scope f cd A outer s₀ H₀ E) tg it fi)(hg:TG' (dD (CXF P w C) P w K mg base N qual scope f cd A outer s₀ H₀ E) tg is bd)
  (hb:DSs (dD (CXF P w C) P w K mg base N qual scope f cd A outer s₀ H₀ E) body fs) (hz:ZB (dD (CXF P w C) P w K mg base N qual scope f cd A outer s₀ H₀ E) C m (fun _=>E) body R)
  (hs:∀x,foldedSetIterable it (dD (CXF P w C) P w K mg base N qual scope f cd A outer s₀ H₀ E).env x=pure x:=by intro _;rfl) :
  ZS (dD (CXF P w C) P w K mg base N qual scope f cd A outer s₀ H₀ E) C m (fun _=>E) (.For tg it body [] pos) (Dm.Gn fi bd fs R):=by
 obtain⟨g,h1,h2⟩:=hg.ex;refine PS.weak (Hu PassesOwn.leaving rfl hi h1 (tb:=fun D σ H=>tDS fs D σ H\/tZ C m (fun _=>E) R σ H) (fun Ju s σ H D I q=>?_) hs) fun _ _ _ q=>Pe h2 q;rcases q with q | q
 ·exact hb Ju s σ H D I q
 ·exact hz Ju s σ H D I q
end
end Br
namespace Dm
noncomputable def yz(C:Nat):FE:=fun ρ=>some (.val (.exc C),ρ)
noncomputable def Jf(C:Nat):Dat->Option RV
 |.int i=>some (.val (.cz C i))
 |_=>none
end Dm
namespace Br
open PySem PySem.Spec PyProof.Rows L2
section
variable{X:Cx}{Ju:List (Addr×Obj)}{σ:L2.St}{H:Hp}{s:Shared}
theorem Inv.apart{h':Heap}{ea:Addr}(hx0:X.ex=[])(I:L2.Inv X Ju σ H s)(new:s.heap.get? ea=none) :
  H ea=none/\X.s₀.heap.get? ea=none/\ea≠X.env.locals/\(∀y c,X.env.cells.lookup y=some c->c≠ea)/\∀p∈X.pn++Ju,p.1≠ea:=by
 refine⟨?_,?_,fun z=>?_,fun y c e z=>?_,fun p hp z=>?_⟩
 ·cases z:H ea with
  |none=>rfl
  |some o=>obtain⟨u,e⟩:=(I.hok ea o z).there;rw[new]at e;cases e
 ·cases z:X.s₀.heap.get? ea with
  |none=>rfl
  |some o=>obtain⟨u,e⟩:=I.base.there ea o z (by rw[hx0];exact fun z=>nomatch z);rw[new]at e;cases e
 ·obtain⟨m,⟨o,_,_,e,_⟩,_⟩:=I.loc;rw[<- z,new]at e;cases e
 ·obtain⟨v,o,e,_⟩:=I.cell y c e;rw[z,new]at e;cases e
 ·have e:=(I.pin p hp).1;rw[z,new]at e;cases e
end
section
variable{X:Cx}{x:Str}{C fI:Addr}{bmB:List Value}{B newId initId:String}{np cpos:Pos}{e:Expr}{te:TE}{k:Nat}{fd:FuncData}{ps:List Str}{f:FE}
theorem lz(hx0:X.ex=[])(hg:Gl X x)(O:OwnCls x C bmB newId X.mg X.base)(FB:ExcBaseFacts B newId initId bmB)(kp:Ut X.K (.ref C)=true)(RQ:(x == ("__debug__" : Str))=false:=by decide):DE X (.Call (.Name x np) [] [] cpos) (Dm.yz C):=by intro Ju s σ H Q I h;obtain⟨H0,ρ,y,ρ',st,e,q⟩:=h;cases e;obtain⟨tl,N,nm,qn,bs,hdct,sn,sub,ab,col,dd,k0,k1,k2,k3,k5,mN,hC,hN,hni,T⟩:=O.obj;refine wpAny_Call_Name_kw (g8 I hg O.bound ?_ RQ);refine PySem.W.callWith_K0 I.kIn kp ?_;obtain⟨hh,g,d,t,os⟩:=s;refine wpAny_call_exc_subT FB (T.keeps I.bk) (I.bk _ _ hC) (hN.keeps I.bk) hni (fun h' ea mk=>?_) (U6 _);obtain⟨nH,n0,nl,nc,npn⟩:=Inv.apart (h':=h') hx0 I mk.new;obtain⟨t0,he,_⟩:=mk.there;have I2:L2.Inv X Ju σ H ⟨h',g,d,t,os⟩:=I.kept (t':=t) mk.keeps;have J:=I2.Ag (o:=φX ea C) nH (φX_ok he rfl) n0 nl nc npn;exact⟨.ref ea,_,J,rfl,q (.ref ea) (upd H0 ea (φX ea C)) _ (ESt.grow st (bA.BJ st.same nH)) (.exc aL)⟩
def Nc(C:Addr)(ta:TE):TE:=fun σ H Q=>ta σ H fun v H1=>∃i:Int,[v]=[V.int i]/\∀dx ea,H1 dx=none->H1 ea=none->dx≠ea->Q (.ref ea) (upd (upd H1 dx (nS i)) ea (φXF ea C dx))
theorem Jg(hx0:X.ex=[])(hg:Gl X x)(O:Gu x C fI bmB newId X.K X.mg X.base)(FB:ExcBaseFacts B newId initId bmB)(G:cF X.prog X.w X.K X.mg X.base CX0 k fI fd ps (ve C))(hr:cS (k+1) X.A)(hb:Binds X.K fd ps [])(he:PE X e te)
  (RQ:(x == ("__debug__" : Str))=false:=by decide) (hs:starEach [e] X.env=(false,eval e X.env)::starEach [] X.env:=by rfl) (RN:(backTo cpos (starEach [] X.env)).any (·.1)=false:=by rfl) :
  PE X (.Call (.Name x np) [e] [] cpos) (Nc C te):=by
 intro Ju s σ H Q I h;obtain⟨bm,N,nm,q,bs,sn,sub,ab,col,dd,k0,k1,k2,k3,k5,hC,T⟩:=O.obj;refine wpAny_Call_Name_kw (g8 I hg O.bound ?_ RQ);refine Wh (h₀:=X.base) I.ok.mod.kin O.kp (thn (gb he mE hs cpos Ju s σ H (fun vs H1=>∃i:Int,vs=[.int i]/\∀dx ea,H1 dx=none->H1 ea=none->dx≠ea->Q (.ref ea) (upd (upd H1 dx (nS i)) ea (φXF ea C dx))) I h) fun us s1 ⟨vs,H1,I1,r,i,ev,hp⟩=>⟨I1.kIn,?_⟩) hs RN;subst ev;obtain⟨u,rfl,ru⟩:=vals1 r;obtain⟨hh,g,d,t,os⟩:=s1;refine PySem.W.t7 FB (T.keeps I1.bk) (I1.bk _ _ hC) I1.kIn O.init O.fn (by show 1<=sizeLine;decide) fun h' ea mk=>?_;obtain⟨t0,he0,_⟩:=mk.there;obtain⟨nH,n0,nl,nc,npn⟩:=Inv.apart (h':=h') hx0 I1 mk.new;have I2:L2.Inv X Ju σ H1 ⟨h',g,d,t,os⟩:=I1.kept (t':=t) mk.keeps;have I3:=I2.Ag (o:=.ext (ly C ea)) nH (A_ ⟨t0,_,he0⟩) n0 nl nc npn;have hl:([UU ea,u]++[]).length=ps.length:=(G.len [.ref ea,.int i] (upd H1 ea (.ext (ly C ea))) (fun _ _=>True) E0 ⟨ea,i,rfl,aL,fun _ _ _=>trivial⟩)
 have hbb:=hb ⟨h',g,d,t,os⟩ [.ref ea,u] I3.kIn hl;rw[U3]at hbb;have run:=G.run (X.A.under (.builtin "type.__call__" ⟨.ref C::[u],[]⟩)) X.stack ⟨h',g,d,t,os⟩ (upd H1 ea (.ext (ly C ea))) ⟨[.ref ea,u],[]⟩ [.ref ea,u] [.ref ea,.int i]
  (fun v H'=>v=.non/\∃dx,(upd H1 ea (.ext (ly C ea))) dx=none/\dx≠ea/\H'=upd (upd (upd H1 ea (.ext (ly C ea))) dx (.xd [("moment",.int i)])) ea (.ext (yx C ea dx))) E0 (hr.make C [u] []) (I3.Hz.make C [u] []) hbb (.cons rfl (.cons ru .nil)) ⟨ea,i,rfl,aL,fun dx h1 h2=>⟨rfl,dx,h1,h2,rfl⟩⟩
 refine codeAny_mono run fun r s' z=>?_;rcases r with x | (_ | _ | _ | v)
 ·exact z.elim
 ·exact z.elim
 ·exact z.elim
 ·exact z.elim
 obtain⟨w,H',I4,rw',rfl,dx,d1,d2,rfl⟩:=I3.after z;obtain rfl:v=Value.none:=rw';refine⟨rfl,?_⟩;obtain⟨⟨t1,sl,e1⟩,_⟩:=(show bZ X.prog X.w _ s'.heap ea (.ext (yx C ea dx)) from I4.hok ea _ aL)
 have I5:=I4.drop (ea:=ea) aL;have eq:(fun b=>if b=ea then none else (upd (upd (upd H1 ea (.ext (ly C ea))) dx (.xd [("moment",.int i)])) ea (.ext (yx C ea dx))) b)=upd H1 dx (.xd [("moment",.int i)]):=by
  funext b
  by_cases hb:b=ea
  ·subst hb;rw[if_pos rfl,aJ (Vl d2),nH]
  ·rw[if_neg hb,aJ hb];by_cases hd:b=dx
   ·subst hd;rw[aL,aL]
   ·rw[aJ hd,aJ hb,aJ hd]
 rw[eq]at I5;rw[aJ d2]at d1;have nE:(upd H1 dx (nS i)) ea=none:=by rw[aJ (Vl d2)];exact nH
 have J:=I5.Ag (o:=φXF ea C dx) nE (φXF_ok e1 rfl rfl fun c z=>by cases z) n0 nl nc npn;exact⟨.ref ea,_,J,rfl,hp dx ea d1 nH d2⟩
theorem LY{σ:L2.St}{H:Hp}{Q:VK}(h:tD (Dm.e1 (Dm.Jf C) f) σ H Q):Nc C (tD f) σ H Q:=by
 obtain⟨H0,ρ,x,ρ',st,e,k⟩:=h;unfold Dm.e1 at e;split at e
 ·cases e
 rename_i x1 ρ1 e1;split at e
 ·cases e
 rename_i dx p1;cases dx with
 |int i=>
  cases e;refine⟨H0,ρ,x1,_,st,e1,fun v H1 Hb t1 r1=>?_⟩;have rv:Rep Hb v (.int i):=(r1.look t1.st p1).full t1.st.same;cases rv;refine⟨i,rfl,fun dx ea n1 n2 ne=>?_⟩;have g1:bA H1 Hb (upd H1 dx (nS i)) (upd Hb dx (nS i)):=bA.BJ t1.st.same n1;have n3:(upd Hb dx (nS i)) ea=none:=by rw[aJ (Vl ne)];exact n2
  have g2:=g1.trans (bA.BJ (o:=φXF ea C dx) g1.s3 n3);exact k (.ref ea) _ _ (t1.trans (ESt.grow t1.st g2)) (.cz aL ((aJ ne).trans aL))
 |_=>cases e
theorem Pf(hx0:X.ex=[])(hg:Gl X x)(O:Gu x C fI bmB newId X.K X.mg X.base)(FB:ExcBaseFacts B newId initId bmB)(G:cF X.prog X.w X.K X.mg X.base CX0 k fI fd ps (ve C))(hr:cS (k+1) X.A)(hb:Binds X.K fd ps [])(he:DE X e f)
  (RQ:(x == ("__debug__" : Str))=false:=by decide) (hs:starEach [e] X.env=(false,eval e X.env)::starEach [] X.env:=by rfl) (RN:(backTo cpos (starEach [] X.env)).any (·.1)=false:=by rfl) :
  DE X (.Call (.Name x np) [e] [] cpos) (Dm.e1 (Dm.Jf C) f):=PE.weak (Jg hx0 hg O FB G hr hb he RQ hs RN) fun _ _ _ q=>LY q
end
theorem LZ{X:Cx}{k:Nat}{F:Addr}{fd:FuncData}{ps:List Str}{g:List Dat->Option RV}{x:Str}{p pos:Pos}(G:cF X.prog X.w X.K X.mg X.base CX0 k F fd ps (spD g))(hr:cS k X.A)(hg:Gl X x)(hm:X.mg x=some (.ref F))(hk:Ut X.K (.ref F)=true)(hb:Binds X.K fd ps [])
  (RQ:(x == ("__debug__" : Str))=false:=by decide):DE X (.Call (.Name x p) [] [] pos) (Dm.eF g []):=by
 intro Ju s σ H Q I h;obtain⟨H0,ρ,xs,ρ',st,e,q⟩:=HN (E:=E0) h;cases e;refine wpAny_Call_Name_kw (g8 I hg hm ?_ RQ);refine PySem.W.callWith_K0 I.kIn hk ?_;exact HA (us:=[]) (vs:=[]) (dvs:=[]) G hr hb .nil (MS (X:=X)) I .nil (q [] H0 H (ESt.refl st) .nil)
end Br
namespace Dm
noncomputable def gf:Dat->Option RV
 | .lst ds=>(match yj ds with
  |some nss=>if (gm nss).length<=75 then some (.new (.lst ((l9 lx (gm nss)).map Ga))) else none
  |none=>none)
 |_=>none
end Dm
namespace Br
open PySem PySem.Spec PyProof.Rows L2
def Cp(prog:Program)(w:World):List V->Hp->VK->Prop:=fun xs H Q=>∃(q:Addr) (qs:List (List Int×Addr)),xs=[.ref q]/\H q=some (.ext fun h=>LO prog w h q qs)/\qs.length<=100/\(∀p∈qs,H p.2=some (.tup (p.1.map V.int))/\p.1≠[]) /\
 ∀(zs:List V) (l:Addr),zs.Perm (qs.map fun p=>V.ref p.2)->zs.Pairwise (fun y z=>∀(a b:Addr) (ks ms:List Int),y=.ref a->z=.ref b->H a=some (.tup (ks.map V.int))->H b=some (.tup (ms.map V.int))->Dm.lx ms ks=false)->H l=none->Q (.ref l) (upd H l (.lst zs))
theorem Ba{X:Cx}(hcm:X.calm=true):kH X (.builtin "sorted") (Cp X.prog X.w):=by
 intro Ju s σ H xs us Q I r h;obtain⟨p,qs,rfl,hq,hl,hks,k⟩:=h;obtain⟨u,rfl,rx⟩:=vals1 r;cases rx;obtain⟨⟨es,ep,t,x1,g,rc,sm,led,pm⟩,_⟩:=(show bZ X.prog X.w H s.heap p (.ext _) from I.hok p _ hq)
 have RM:es.size=qs.length:=by rw[<- Dp,pm.length_eq,Ud]
 refine Calls.call_function_entry kind_sorted plain_sorted entry_sorted (args_sorted1 _) ?_;unfold Builtin.«sorted»;refine wpAny_bind (m:=checkCount "sorted" 1 1 _) (wpAny_pure ?_);refine wpAny_bind (PySem.W.kdu_collect (A:=X.A.in1) (Sx.LL (prog:=X.prog) (w:=X.w) (a:=p) (ep:=ep) g sm.le led) (I.ok.hd hcm) x1 (by rw[RM];exact Nat.le_trans hl (by decide)) fun h' tk Mc hk0 hacc=>?_);have ew:Mc.toList=Sx.kE X.w p es ep:=by
  apply List.ext_getElem?;intro i;by_cases hi:i<Mc.toList.length
  ·rw[Uz hi];exact(hacc.2 i _ (by rw[<- U7,Uz hi])).symm
  ·rw[Vg (by lia),Vg (by rw[Sx.ou,<- hacc.1,<- Dp];lia)]
 have wp:=Sx.Aj X.w p es ep;rw[<- ew]at wp
 generalize hits:Mc.toList=its at *
 have wp2:its.Perm (qs.map fun q=>UU q.2):=by refine wp.trans ((pm.map _).trans (.of_eq ?_));rw[Wf];rfl
 have hn:its.length=qs.length:=by rw[wp2.length_eq,Ud]
 have hv:∀v∈its,∃(a:Addr) (ks:List Int),v=.ref a/\H a=some (.tup (ks.map V.int))/\ks≠[]:=fun v hm=>by obtain⟨q,hq',rfl⟩:=U0.mp (wp2.mem_iff.mp hm);exact⟨q.2,q.1,rfl,(hks q hq').1,(hks q hq').2⟩
 have key:∀v∈its,∃ks,(AX H).keyOf v=some ks:=fun v hm=>by obtain⟨a,ks,rfl,h3,_⟩:=hv v hm;refine⟨ks,?_⟩;show zM H (.ref a)=some ks;unfold zM;dsimp only;rw[h3];exact kM ks
 have hk:KeysOf (AX H) (pairsOf its):=fun q hq=>key q.1 (u5 hq).2;have look:∀(h':Heap),(∀b o,s.heap.get? b=some o->h'.get? b=some o)->∀(v:Value) (ks:List Int),zM H v=some ks->∃(a:Addr) (o:Obj) (ts:List Value) (n:Nat),v=.ref a/\h'.get? a=some o/\o.cls=.type "tuple" /\ o.data=.seq ts.toArray n/\IntsAre ts ks:=fun h' kp v ks e=>by
  unfold zM at e;split at e
  ·rename_i a;split at e
   ·rename_i xs hx;have:=BZ e;subst this;obtain⟨_,ts,rt,o,ho,hc,n,hd⟩:=I.hok a _ hx;exact⟨a,o,ts,n,rfl,kp _ _ ho,hc,hd,intsAre_of rt⟩
   ·cases e
  ·cases e
 refine wpAny_bind (wpAny_newList ?_ (by rw[hn];exact Nat.le_trans hl (by decide)));have hL0:(h'.push (seqObj "list" its.toArray 0)).get? h'.objs.size=some (seqObj "list" its.toArray 0):=UW _ rfl;have I1:=I.kept (t':=tk) hk0;have up0:∀h2:Heap,(∀b o,b≠h'.objs.size->(h'.push (seqObj "list" its.toArray 0)).get? b=some o->h2.get? b=some o)->∀b o,s.heap.get? b=some o->h2.get? b=some o:=fun h2 kp b o e=>kp b o (UM (Uh (hk0 _ _ e))) (Dk _ (hk0 _ _ e));refine wpAny_bind (wpAny_holding (wpAny_call_entry (s:={ s with heap:=h'.push (seqObj "list" its.toArray 0),toks:=tk }) slot_list_sort ⟨_,hL0,rfl⟩ entry_list_sort (Ts.Lv (κ:=AX H) (kd:=tuples' true) hL0 (by lia) hk (fun h2 kp0 h2' {Q'} hq'=>?_) (fun h2 kp0=>?_) fun st' hp hs=>⟨_,rfl,?_⟩) (args_list_sort _)))
 ·-- the kind
  have tups:∀l:List Value,(∀v∈l,∃(a:Addr) (ks:List Int),v=.ref a/\H a=some (.tup (ks.map V.int))/\ks≠[])->∃fs,PySem.W.KatTups h2 l fs/\fs.length=l.length/\∀f∈fs,∃n t,f=WM n t:=fun l=>by
   induction l with
   |nil=>intro _;exact⟨[],.nil,rfl,fun f hf=>by cases hf⟩
   |cons v l ih=>
    intro hl';obtain⟨a,ks,rfl,h3,h4⟩:=hl' v Uj;obtain⟨fs,t,lf,hf⟩:=ih fun z hz=>hl' z (Ue _ hz);obtain⟨a',o,ts,n,e,ho,hc,hd,hi⟩:=look h2 (up0 h2 kp0) (.ref a) ks (by unfold zM;dsimp only;rw[h3];exact kM ks);cases e;cases hi with
    |nil=>exact absurd rfl h4
    |cons m t' hi'=>
     refine⟨_::fs,.cons ho hc hd (f:=.int m t') (by simp) t,by simp[lf],fun f hm=>?_⟩;rcases Ui.mp hm with rfl | hm
     ·exact⟨_,_,rfl⟩
     ·exact hf f hm
  obtain⟨fs,t,lf,hf⟩:=tups its hv;refine PySem.W.kat_kind (s:={ s with heap:=h2,toks:=tk }) (T:=.type "int") t (by lia) (fun f hm=>?_) (by rfl) ?_
  ·obtain⟨n,tk,rfl⟩:=hf f hm;exact .now
  ·exact hq'
 ·refine Gb fun x y a b {Q'} {E''} ha hb q=>?_;obtain⟨ax,ox,tx,nx,ex,hx,_,dx,ix⟩:=look h2 (up0 h2 kp0) x.1 a ha;obtain⟨ay,oy,ty,ny,ey,hy,_,dy,iy⟩:=look h2 (up0 h2 kp0) y.1 b hb;rw[ex,ey];refine PySem.W.kat_lt (s:={ s with heap:=h2,toks:=tk }) hx dx hy dy ?_;exact B0 0 ix iy (by rw[UE,UE,ix.length,iy.length]) q
 ·obtain⟨out,eo,po,so⟩:=OV hk hp hs;rw[eo];obtain⟨c,hc⟩:=sortedHeap_at (out:=out.toArray) hL0;have vo:∀l:List Value,(∀v∈l,∃(a:Addr) (ks:List Int),v=.ref a/\H a=some (.tup (ks.map V.int))/\ks≠[])->Vals (l.map bk) l:=fun l=>by
   induction l with
   |nil=>intro _;exact .nil
   |cons v l ih=>intro hl';obtain⟨a,ks,rfl,_⟩:=hl' v Uj;exact .cons rfl (ih fun z hz=>hl' z (Ue _ hz))
  have hvo:=vo out fun v hm=>hv v (po.mem_iff.mp hm);have hz2:(out.map bk).length<=sizeLine:=by rw[Ud,po.length_eq,hn];exact Nat.le_trans hl (by decide)
  refine wpAny_pure ⟨_,rfl,.ref h'.objs.size,_,I1.laid (t':=tk) (fun b o e=>?_) (Nat.le_refl _) (show bZ X.prog X.w _ _ _ (.lst (out.map bk)) from ⟨hz2,out,c,hvo,by simpa using hc⟩),rfl,k _ _ ?_ ?_ (I1.hok.fresh (Nat.le_refl _))⟩
  ·have lt:=Uh e;rw[sortedHeap_old (UM lt) (by rw[size_push'];exact V5 lt)];exact Dk _ e
  ·have:=(po.trans wp2).map bk;rw[Wf]at this;exact this
  ·rw[V6];refine WQ ?_ so;intro x y hx hy hle a b ks ms e1 e2 h1 h2;obtain⟨a',ks',rfl,h1',_⟩:=hv x (po.mem_iff.mp hx);obtain⟨b',ms',rfl,h2',_⟩:=hv y (po.mem_iff.mp hy);cases e1;cases e2;refine hle ks ms ?_ ?_
   ·show zM H (.ref a)=some ks;unfold zM;dsimp only;rw[h1];exact kM ks
   ·show zM H (.ref b)=some ms;unfold zM;dsimp only;rw[h2];exact kM ms
def E7(K:gc)(prog:Program)(w:World):List V->Hp->VK->Prop:=fun xs H Q=>∃(q:Addr) (qs:List (List Int×Addr)),xs=[.ref q]/\SqL K H q (qs.map fun p=>V.ref p.2)/\(∀p∈qs,H p.2=some (.tup (p.1.map V.int)))/\(Sx.oz qs qs.length).length<=75 /\
 ∀l,H l=none->Q (.ref l) (upd H l (.ext fun h=>LO prog w h l (Sx.oz qs qs.length)))
theorem Cq{X:Cx}(hc:X.calm=true)(hu:X.A.units+4<cLine):kH X (.type "set") (E7 X.K X.prog X.w):=by
 intro Ju s σ H xs us Q I r h;obtain⟨q,qs,rfl,hq,hk,hb,k⟩:=h;obtain⟨u,rfl,rx⟩:=vals1 r;cases rx;obtain⟨its,rv,pl,hz⟩:=I.list hq;refine Sx.wM (qs:=qs) hu (I.ok.hd hc) pl.isList (by simpa using E3 rv) (fun p hp=>?_) (Nat.le_trans hb (by decide)) fun h' tk hS hkeep=>?_
 ·obtain⟨_,ts,rt,o,ho,hcl,n,hd⟩:=(show bZ X.prog X.w H s.heap p.2 (.tup (p.1.map V.int)) from I.hok p.2 _ (hk p hp))
  exact⟨o,ts.toArray,n,ho,hcl,hd,by simpa using Ci rt⟩
 ·exact ⟨.ref s.heap.objs.size,_,I.laid (a:=s.heap.objs.size) (o:=.ext fun h=>LO X.prog X.w h s.heap.objs.size (Sx.oz qs qs.length)) (t':=tk) (fun b u e=>hkeep b u (Uh e) e) (Nat.le_refl _)
   (show bZ X.prog X.w _ _ _ (.ext _) from ⟨hS.1,(let ⟨_,_,_,⟨o,ho,_⟩,_⟩:=hS.1;⟨o,ho⟩),fun h1 h2 x e=>let ⟨es,ep,t,x1,r⟩:=x;⟨es,ep,t,x1.at e,r⟩⟩),rfl,k _ (I.hok.fresh (Nat.le_refl _))⟩
section
variable{X:Cx}{e:Expr}{f:FE}{p p0 pos zK:Pos}
theorem Cr{K:gc}{prog:Program}{w:World}{σ:L2.St}{H:Hp}{Q:VK}(h:tD (Dm.e1 Dm.gf f) σ H Q):tCB (Cp prog w) (qI (tCB (E7 K prog w) (qI (tD f) C9)) C9) σ H Q:=by
 obtain⟨H0,ρ,x,ρ',st,e,k⟩:=h;unfold Dm.e1 at e;split at e
 ·cases e
 rename_i x1 ρ1 e1;split at e
 ·cases e
 rename_i dx p1;split at e
 ·cases e
 rename_i z gz;cases e;unfold Dm.gf at gz;split at gz
 case h_2=>cases gz
 rename_i ds;split at gz
 case h_2=>cases gz
 rename_i nss en;split at gz
 case isFalse=>cases gz
 rename_i hb;cases gz;refine⟨H0,ρ,x1,_,st,e1,fun v H1 Hb t1 r1=>?_⟩;obtain⟨a,xs,rfl,qa,ra⟩:=ef t1.st.same (r1.look t1.st p1);obtain⟨qs,rfl,rfl,hq⟩:=Na ra en;rw[<- Cj,Ud]at hb;refine⟨a,qs,rfl,.inl qa,fun p hp=>t1.st.same _ _ (hq p hp).1,hb,fun l hl=>?_⟩;have ne:∀p∈qs,p.2≠l:=fun p hp z=>by have:=t1.st.same _ _ (hq p hp).1;rw[z,hl]at this;cases this
 refine⟨l,Sx.oz qs qs.length,rfl,aL,?_,fun p hp=>?_,fun zs l2 pm so hp=>?_⟩
 ·lia
 ·have hm:=A7 qs _ p hp;exact⟨by rw[aJ (ne p hm)];exact t1.st.same _ _ (hq p hm).1,(hq p hm).2⟩
 ·let ks:V->List Int:=fun v=>match v with
   | .ref b=>(match H1 b with
    |some (.tup ys)=>(tS ys).getD []
    |_=>[])
   |_=>[]
  have hks:∀p∈qs,ks (.ref p.2)=p.1:=fun p hp=>by show (match H1 p.2 with | some (.tup ys)=>(tS ys).getD [] | _=>[])=p.1;rw[(hq p hp).1];dsimp only;rw[kM];rfl
  have hz:∀y∈zs,∃b:Addr,y=.ref b/\H1 b=some (.tup ((ks y).map V.int)):=fun y hy=>by obtain⟨p,hp',rfl⟩:=U0.mp (pm.mem_iff.mp hy);have hm:=A7 qs _ p hp';exact⟨p.2,rfl,by rw[hks p hm];exact(hq p hm).1⟩
  have pk:(zs.map ks).Perm (Dm.gm (qs.map (·.1))):=by refine(pm.map ks).trans (.of_eq ?_);rw[Wf,<- Cj];exact Wg fun p hp'=>hks p (A7 qs _ p hp')
  have srt:(zs.map ks).Pairwise (fun a b=>Dm.lx b a=false):=by
   rw[V6];refine WQ ?_ so;intro x y hx hy hle;obtain⟨b1,q1,q2⟩:=hz x hx;obtain⟨b2,q3,q4⟩:=hz y hy;have n1:b1≠l:=fun z=>by have:=t1.st.same _ _ q2;rw[z,hl]at this;cases this
   have n2:b2≠l:=fun z=>by have:=t1.st.same _ _ q4;rw[z,hl]at this;cases this
   exact hle b1 b2 _ _ q1 q3 (by rw[aJ n1];exact t1.st.same _ _ q2) (by rw[aJ n2];exact t1.st.same _ _ q4)
  have es:zs.map ks=Dm.l9 Dm.lx (Dm.gm (qs.map (·.1))):=by
   refine Dm.n_ (lt:=Dm.lx) Dm.n9 (pk.trans (Dm.mQ _ _).symm) srt (Dm.mR (fun a b c h1 h2=>?_) (fun a b h=>?_) _)
   ·cases h:Dm.lx c a
    ·rfl
    ·rcases Dm.Dq c b a h with z | z
     ·rw[z]at h2;cases h2
     ·rw[z]at h1;cases h1
   ·cases h':Dm.lx b a
    ·rfl
    ·have:=Dm.n8 a b a h h';rw[Dm.qo]at this;cases this
  have g1:=bA.zI (o:=.ext fun h=>LO prog w h l (Sx.oz qs qs.length)) t1.st.same hl;have t2:=t1.trans (.grow t1.st g1);have g2:=bA.zI (o:=.lst zs) t2.st.same hp;refine k _ _ _ (t2.trans (.grow t2.st g2)) ⟨l2,rfl,t2.stp.gone hp,t2.st.nZ hp,t2.st.same.free hp,_,aL,?_⟩;rw[<- es];exact Af ks hz
theorem oG{kk:Nat}(hr:cS kk X.A)(hc:X.calm=true)(hgl:Gl X "sorted")(hml:X.mg "sorted" = none)(hg:Gl X "set")(hm:X.mg "set" = none)(h:DE X e f)(hs:starEach [e] X.env=[(false,eval e X.env)]:=by rfl)
  (hs0:starEach [.Call (.Name "set" p) [e] [] pos] X.env=[(false,eval (.Call (.Name "set" p) [e] [] pos) X.env)]:=by rfl) (RN:(backTo pos (starEach [] X.env)).any (·.1)=false:=by rfl) (TM:(backTo zK (starEach [] X.env)).any (·.1)=false:=by rfl) :
  DE X (.Call (.Name "sorted" p0) [.Call (.Name "set" p) [e] [] pos] [] zK) (Dm.e1 Dm.gf f):=
 PE.weak (nW (Ba hc) hgl hml boot_sorted (gb (z8 (Cq hc (Nat.lt_of_le_of_lt (Nat.add_le_add_left (by decide) _) hr.units)) hg hm (by rfl) (gb h mE hs) (he:=hs) (RN:=RN)) mE hs0) (he:=hs0) (RN:=TM)) fun _ _ _=>Cr
end
end Br
namespace Dm
section
variable{ρ:Env}{K:RV->Prop}{Q:Val->Env->Prop}{o p:Option Dat}{R:RV->Env->Prop}{N:Env->Prop}{B C:Env->Prop}{α:Type}{xs:List Dat}{d:Dat}{i j:Int}{f:List Dat->Option RV}{ds:List Dat}{X Y:Prop}{as:List FE}{a:FE}{g:Dat->Option RV}{c:Bool}{l h:Option Int}{e:FE}{is:List Nat}{v:RV}{t:FT}{body:FS}{s u:FS}{bd:FB}
def We(e:FE)(ρ:Env)(Q:Val->Env->Prop):Prop:=∃v ρ',e ρ=some (v,ρ')/\Q v ρ'
def Wt(t:FT)(ρ:Env)(Q:Bool->Env->Prop):Prop:=∃v ρ',t ρ=some (v,ρ')/\Q v ρ'
def Was(as:List FE)(ρ:Env)(Q:List Val->Env->Prop):Prop:=∃v ρ',eAs as ρ=some (v,ρ')/\Q v ρ'
def Wi(it:FI)(ρ:Env)(Q:List Dat->Env->Prop):Prop:=∃v ρ',it ρ=some (v,ρ')/\Q v ρ'
def KO(N:Env->Prop)(R:RV->Env->Prop)(B C:Env->Prop):Out->Prop
 |.nx ρ=>N ρ
 |.ret r ρ=>R r ρ
 |.bk ρ=>B ρ
 |.ct ρ=>C ρ
def Ws(s:FS)(ρ:Env)(N:Env->Prop)(R:RV->Env->Prop)(B C:Env->Prop):Prop:=∃o,s ρ=some o/\KO N R B C o
def Wr(o:Option RV)(P:RV->Prop):Prop:=∃r,o=some r/\P r
def Wif(c:Bool)(X Y:Prop):Prop:=(c=true->X)/\(c=false->Y)
def Wg1(g:Dat->Option RV)(o:Option Dat)(K:RV->Prop):Prop:=∃d v,o=some d/\g d=some v/\K v
def Wg2(g:Dat->Dat->Option RV)(o p:Option Dat)(K:RV->Prop):Prop:=∃d e v,o=some d/\p=some e/\g d e=some v/\K v
def WB(g:List Dat->Option RV)(o:Option (List Dat))(K:RV->Prop):Prop:=∃ds v,o=some ds/\g ds=some v/\K v
def WT(o:Option (List Dat×Env))(K:List Dat->Env->Prop):Prop:=∃ds ρ,o=some (ds,ρ)/\ds.length<=SZ/\K ds ρ
def WF(f:List Dat->Option RV)(ρ:Env)(xs:List Val)(Q:Val->Env->Prop):Prop:=∃ds v,pks ρ xs=some ds/\f ds=some v/\(if bW v.dat then ∃ds' ρ2,tks ρ xs=some (ds',ρ2)/\Q v.bI ρ2 else Q v.bI ρ)
def Wk(ρ:Env)(x:Val)(K:Dat->Env->Prop):Prop:=∃d ρ',tk ρ x=some (d,ρ')/\K d ρ'
def Wp(o:Option FE)(ρ:Env)(K:Option Int->Env->Prop):Prop:=∃i ρ',part o ρ=some (i,ρ')/\K i ρ'
theorem Zm(x:X):Wif true X Y:=⟨fun _=>x,fun h=>by cases h⟩
theorem YU(y:Y):Wif false X Y:=⟨fun h=>(by cases h),fun _=>y⟩
theorem Zd(h:c=true)(x:X):Wif c X Y:=⟨fun _=>x,fun h'=>by rw[h]at h';cases h'⟩
theorem Ys(h:c=false)(y:Y):Wif c X Y:=⟨fun h'=>(by rw[h]at h';cases h'),fun _=>y⟩
theorem Zf{p:Prop}[Decidable p](x:p->X)(y:¬p->Y):Wif (decide p) X Y:=⟨fun h=>x (of_decide_eq_true h),fun h=>y (of_decide_eq_false h)⟩
theorem U_{i:Nat}(h:ρ[i]?=some (.sh d))(q:Q (.val d) ρ):We (eV i) ρ Q:=⟨_,_,by unfold eV;rw[h],q⟩
theorem Yz{i:Nat}(h:ρ[i]?=some (.ow d))(q:Q (.slot i) ρ):We (eV i) ρ Q:=⟨_,_,by unfold eV;rw[h],q⟩
theorem Yp(q:Q (.val d) ρ):We (eC d) ρ Q:=⟨_,_,rfl,q⟩
theorem Yu(h:We a ρ fun x ρ1=>Wg1 g (pk ρ1 x) fun v=>Q v.bI ρ1):We (e1 g a) ρ Q:=by obtain⟨x,ρ1,h1,d,v,h2,h3,q⟩:=h;exact⟨_,_,by unfold Dm.e1;rw[h1];dsimp only;rw[h2];dsimp only;rw[h3],q⟩
theorem W_{g:Dat->Dat->Option RV}{a b:FE}(h:We a ρ fun x ρ1=>We b ρ1 fun y ρ2=>Wg2 g (pk ρ2 x) (pk ρ2 y) fun v=>Q v.bI ρ2):We (e2 g a b) ρ Q:=by obtain⟨x,ρ1,h1,y,ρ2,h2,d,e,v,h3,h4,h5,q⟩:=h;exact⟨_,_,by unfold Dm.e2;rw[h1];dsimp only;rw[h2];dsimp only;rw[h3];dsimp only;rw[h4];dsimp only;rw[h5],q⟩
theorem V_{Q:List Val->Env->Prop}(q:Q [] ρ):Was [] ρ Q:=⟨_,_,rfl,q⟩
theorem m_{r:List FE}{Q:List Val->Env->Prop}(h:We a ρ fun x ρ1=>Was r ρ1 fun xs ρ2=>Q (x::xs) ρ2):Was (a::r) ρ Q:=by obtain⟨x,ρ1,h1,xs,ρ2,h2,q⟩:=h;exact⟨_,_,by unfold eAs;rw[h1];dsimp only;rw[h2],q⟩
theorem YO{g:List Dat->Option RV}(h:Was as ρ fun xs ρ1=>WB g (pks ρ1 xs) fun v=>Q v.bI ρ1):We (eB g as) ρ Q:=by obtain⟨x,ρ1,h1,d,v,h2,h3,q⟩:=h;exact⟨_,_,by unfold eB;rw[h1];dsimp only;rw[h2];dsimp only;rw[h3],q⟩
theorem Y8(h:Was as ρ fun xs ρ1=>WT (tks ρ1 xs) fun ds ρ2=>Q (.val (.tup ds)) ρ2):We (bJ as) ρ Q:=by obtain⟨x,ρ1,h1,ds,ρ2,h2,h3,q⟩:=h;exact⟨_,_,by unfold bJ;rw[h1];dsimp only;rw[h2];dsimp only;rw[if_pos h3],q⟩
theorem Y0(h:Was as ρ fun xs ρ1=>WT (tks ρ1 xs) fun ds ρ2=>Q (.new (.lst ds)) ρ2):We (bS as) ρ Q:=by obtain⟨x,ρ1,h1,ds,ρ2,h2,h3,q⟩:=h;exact⟨_,_,by unfold bS;rw[h1];dsimp only;rw[h2];dsimp only;rw[if_pos h3],q⟩
theorem YG{xs:List Val}{ρ2 ρ3:Env}{K:List Dat->Env->Prop}(k:K ds ρ3)(h:tks ρ xs=some (ds,ρ2))(hn:ρ2=ρ3)(hl:ds.length<=SZ):WT (tks ρ xs) K:=⟨_,_,hn▸h,hl,k⟩
theorem YD(h:Was as ρ fun xs ρ1=>WF f ρ1 xs Q):We (eF f as) ρ Q:=by
 obtain⟨x,ρ1,h1,ds,v,h2,h3,h4⟩:=h;by_cases hb:bW v.dat=true
 ·rw[if_pos hb]at h4;obtain⟨ds',ρ2,h5,q⟩:=h4;exact⟨_,_,by unfold eF;rw[h1];dsimp only;rw[h2];dsimp only;rw[h3];dsimp only;rw[if_pos hb,h5],q⟩
 ·rw[if_neg hb]at h4;exact⟨_,_,by unfold eF;rw[h1];dsimp only;rw[h2];dsimp only;rw[h3];dsimp only;rw[if_neg hb],h4⟩
theorem YH{ρ ρ2 ρ3:Env}{xs:List Val}{ds ds':List Dat}(h2:f ds=some v)(q:Q v.bI ρ3)(h1:pks ρ xs=some ds)(h3:bW v.dat=true)(h4:tks ρ xs=some (ds',ρ2))(hn:ρ2=ρ3):WF f ρ xs Q:=
 ⟨_,_,h1,h2,by rw[if_pos h3];exact⟨_,_,h4,hn▸q⟩⟩
theorem X_{xs:List Val}(h2:f ds=some v)(q:Q v.bI ρ)(h1:pks ρ xs=some ds)(h3:bW v.dat=false):WF f ρ xs Q:=
 ⟨_,_,h1,h2,by rw[if_neg (by rw[h3];decide)];exact q⟩
def Wb(v:Val)(K:Bool->Prop):Prop:=∃c,v=.val (.bl c)/\K c
theorem Yw{K:Bool->Prop}(k:K c):Wb (.val (.bl c)) K:=⟨c,rfl,k⟩
theorem Zz{a b:FE}(h:We a ρ fun v ρ1=>Wb v fun c=>Wif c (We b ρ1 Q) (Q (.val (.bl false)) ρ1)):We (dI a b) ρ Q:=by
 obtain⟨v,ρ1,h1,c,rfl,h2,h3⟩:=h;cases c with
 |true=>obtain⟨v,ρ2,h4,q⟩:=h2 rfl;exact⟨_,_,by unfold dI;rw[h1];exact h4,q⟩
 |false=>exact⟨_,_,by unfold dI;rw[h1],h3 rfl⟩
theorem Zl{a b:FE}(h:We a ρ fun v ρ1=>Wb v fun c=>Wif c (Q (.val (.bl true)) ρ1) (We b ρ1 Q)):We (eOr a b) ρ Q:=by
 obtain⟨v,ρ1,h1,c,rfl,h2,h3⟩:=h;cases c with
 |false=>obtain⟨v,ρ2,h4,q⟩:=h3 rfl;exact⟨_,_,by unfold eOr;rw[h1];exact h4,q⟩
 |true=>exact⟨_,_,by unfold eOr;rw[h1],h2 rfl⟩
theorem Zt(h:We a ρ fun v ρ1=>Wb v fun c=>Q (.val (.bl (!c))) ρ1):We (eW a) ρ Q:=by obtain⟨v,ρ1,h1,c,rfl,h2⟩:=h;exact⟨_,_,by unfold eW;rw[h1],h2⟩
theorem YC{Q:Bool->Env->Prop}(h:We a ρ fun v ρ1=>Wb v fun c=>Q c ρ1):Wt (tV a) ρ Q:=by obtain⟨v,ρ1,h1,c,rfl,h2⟩:=h;exact⟨_,_,by unfold tV;rw[h1],h2⟩
theorem YI{Q:Bool->Env->Prop}(h:Wt t ρ fun c ρ1=>Q (!c) ρ1):Wt (bM t) ρ Q:=by obtain⟨v,ρ1,h1,h2⟩:=h;exact⟨_,_,by unfold bM;rw[h1],h2⟩
theorem Zg{t u:FT}{Q:Bool->Env->Prop}(h:Wt t ρ fun c ρ1=>Wif c (Wt u ρ1 Q) (Q false ρ1)):Wt (dB t u) ρ Q:=by
 obtain⟨c,ρ1,h1,h2,h3⟩:=h;cases c with
 |true=>obtain⟨v,ρ2,h4,q⟩:=h2 rfl;exact⟨_,_,by unfold dB;rw[h1];exact h4,q⟩
 |false=>exact⟨_,_,by unfold dB;rw[h1],h3 rfl⟩
theorem YY{t u:FT}{Q:Bool->Env->Prop}(h:Wt t ρ fun c ρ1=>Wif c (Q true ρ1) (Wt u ρ1 Q)):Wt (tOr t u) ρ Q:=by
 obtain⟨c,ρ1,h1,h2,h3⟩:=h;cases c with
 |false=>obtain⟨v,ρ2,h4,q⟩:=h3 rfl;exact⟨_,_,by unfold tOr;rw[h1];exact h4,q⟩
 |true=>exact⟨_,_,by unfold tOr;rw[h1],h2 rfl⟩
theorem Zj{Q:Bool->Env->Prop}(q:Q true ρ):Wt bD ρ Q:=⟨_,_,rfl,q⟩
theorem Yy{K:Dat->Env->Prop}(k:K d ρ):Wk ρ (.val d) K:=⟨_,_,rfl,k⟩
noncomputable def L5:Dat->Option (List Dat)
 |.lst ds=>some ds
 |.tup ds=>some ds
 |_=>none
theorem Zu{Q:List Dat->Env->Prop}(h:We a ρ fun x ρ1=>Wk ρ1 x fun d ρ2=>∃ds,L5 d=some ds/\Q ds ρ2):Wi (iS a) ρ Q:=by
 obtain⟨x,ρ1,h1,d,ρ2,h2,ds,hd,q⟩:=h;cases d with
 |lst xs=>cases hd;exact⟨_,_,by unfold iS;rw[h1];dsimp only;rw[h2],q⟩
 |tup xs=>cases hd;exact⟨_,_,by unfold iS;rw[h1];dsimp only;rw[h2],q⟩
 |_=>cases hd
def Cs(v:Val)(K:Int->Prop):Prop:=∃i,v=.val (.int i)/\K i
theorem Cs.mk{i:Int}{K:Int->Prop}(k:K i):Cs (.val (.int i)) K:=⟨i,rfl,k⟩
theorem Y3{Q:List Dat->Env->Prop}(h:We a ρ fun v ρ1=>Cs v fun j=>Q (ups 0 j.toNat) ρ1/\j<=BIG/\-BIG<=j):Wi (iR1 a) ρ Q:=by obtain⟨v,ρ1,h1,j,rfl,q,h2⟩:=h;exact⟨_,_,by unfold iR1;rw[h1];dsimp only;rw[if_pos h2],q⟩
theorem Wp.none{K:Option Int->Env->Prop}(k:K none ρ):Wp none ρ K:=⟨_,_,rfl,k⟩
theorem Wp.some{f:FE}{K:Option Int->Env->Prop}(h:We f ρ fun v ρ1=>Cs v fun i=>K (some i) ρ1):Wp (some f) ρ K:=by obtain⟨v,ρ1,h1,i,rfl,k⟩:=h;exact⟨_,_,by unfold part;dsimp only;rw[h1],k⟩
def Wsl(o:Option Dat)(l h:Option Int)(K:Dat->Prop):Prop:=∃xs,o=some (.lst xs)/\K (.lst (cut xs l h))
theorem Wsl.mk{o:Option Dat}{K:Dat->Prop}(k:K (.lst (cut xs l h)))(ho:o=some (.lst xs)):Wsl o l h K:=⟨xs,ho,k⟩
noncomputable def qT{α:Type}(xs:List α)(lo hi:Option Int):List α:=(xs.drop (sIx xs.length 0 lo)).take (sIx xs.length xs.length hi-sIx xs.length 0 lo)
theorem Ao(RP:α->Dat)(xs:List α)(lo hi:Option Int):cut (xs.map RP) lo hi=(qT xs lo hi).map RP:=by unfold cut qT;rw[Ud,<- List.map_drop,<- List.map_take]
theorem yC(xs:List α)(lo hi:Option Int):(qT xs lo hi).length<=xs.length:=by unfold qT;rw[Vn,Wd];lia
theorem Ct{xs:List α}{lo hi:Option Int}{x:α}(h:x∈qT xs lo hi):x∈xs:=VP (Vz h)
theorem Wsl.A{RP:α->Dat}{xs:List α}{o:Option Dat}{K:Dat->Prop}(k:K (.lst ((qT xs l h).map RP)))(ho:o=some (.lst (xs.map RP))):Wsl o l h K:=⟨_,ho,by rw[Ao];exact k⟩
theorem ZF{lo hi:Option FE}(h:We a ρ fun x ρ1=>Wp lo ρ1 fun l ρ2=>Wp hi ρ2 fun h ρ3=>Wsl (pk ρ3 x) l h fun d=>Q (.new d) ρ3):We (eSl a lo hi) ρ Q:=by obtain⟨x,ρ1,h1,l,ρ2,h2,hh,ρ3,h3,xs,h4,q⟩:=h;exact⟨_,_,by unfold eSl;rw[h1];dsimp only;rw[h2];dsimp only;rw[h3];dsimp only;rw[h4],q⟩
theorem YW(n:N ρ):Ws sNx ρ N R B C:=⟨_,rfl,n⟩
theorem Yo(h:Ws s ρ (fun ρ1=>Ws u ρ1 N R B C) R B C):Ws (aO s u) ρ N R B C:=by
 obtain⟨o,h1,h2⟩:=h;cases o with
 |nx ρ1=>obtain⟨o,h3,h4⟩:=h2;exact⟨o,by unfold aO;rw[h1];exact h3,h4⟩
 |ret r ρ1=>exact⟨.ret r ρ1,by unfold aO;rw[h1],h2⟩
 |bk ρ1=>exact⟨.bk ρ1,by unfold aO;rw[h1],h2⟩
 |ct ρ1=>exact⟨.ct ρ1,by unfold aO;rw[h1],h2⟩
def WA(i:Nat)(v:Val)(ρ:Env)(N:Env->Prop):Prop:=match v with
 |.new d=>N (ρ.set i (.ow d))
 |x=>Wk ρ x fun d ρ2=>N (ρ2.set i (.sh d))
theorem YE{i:Nat}(h:We e ρ fun v ρ1=>WA i v ρ1 N)(hi:i≠0):Ws (sA i e) ρ N R B C:=by
 obtain⟨v,ρ1,h1,h2⟩:=h;cases v with
 |new d=>exact⟨.nx _,by unfold sA;rw[if_neg hi,h1],h2⟩
 |val d=>obtain⟨d',ρ2,h3,h4⟩:=h2;exact⟨.nx _,by unfold sA;rw[if_neg hi,h1];dsimp only;rw[h3],h4⟩
 |slot j=>obtain⟨d',ρ2,h3,h4⟩:=h2;exact⟨.nx _,by unfold sA;rw[if_neg hi,h1];dsimp only;rw[h3],h4⟩
theorem YL{i:Nat}{ρ ρ2:Env}(n:N ρ2)(hs:ρ.set i (.ow d)=ρ2):WA i (.new d) ρ N:=by unfold WA;dsimp only;rw[hs];exact n
theorem YK{i:Nat}{ρ ρ2:Env}(n:N ρ2)(hs:ρ.set i (.sh d)=ρ2):WA i (.val d) ρ N:=⟨_,_,rfl,by show N _;rw[hs];exact n⟩
theorem ZA(h:We e ρ fun x ρ1=>Wk ρ1 x fun d ρ2=>∃ds ρ3,d=.tup ds/\sets is ds ρ2=some ρ3/\N ρ3):Ws (sU is e) ρ N R B C:=by obtain⟨x,ρ1,h1,d,ρ2,h2,ds,ρ3,rfl,h3,n⟩:=h;exact⟨.nx _,by unfold sU;rw[h1];dsimp only;rw[h2];dsimp only;rw[h3],n⟩
theorem Pg{ρ ρ3 ρ4:Env}(n:N ρ4)(h:sets is ds ρ=some ρ3)(hn:ρ3=ρ4):∃ds' ρ3,Dat.tup ds=.tup ds'/\sets is ds' ρ=some ρ3/\N ρ3:=⟨_,_,rfl,h,hn▸n⟩
def WR(v:Val)(ρ:Env)(R:RV->Env->Prop):Prop:=match v with
 |.new d=>R (.new d) ρ
 |.val d=>R (.val d) ρ
 |.slot i=>(∃d,ρ[i]?=some (.ow d)/\R (.new d) (ρ.set i .un))
theorem YA(h:We e ρ fun v ρ1=>WR v ρ1 R):Ws (sR e) ρ N R B C:=by
 obtain⟨v,ρ1,h1,h2⟩:=h;cases v with
 |new d=>exact⟨.ret _ _,by unfold sR;rw[h1],h2⟩
 |val d=>exact⟨.ret _ _,by unfold sR;rw[h1],h2⟩
 |slot i=>obtain⟨d,h3,h4⟩:=h2;exact⟨.ret _ _,by unfold sR;rw[h1];dsimp only;rw[h3],h4⟩
theorem Y_(r:R (.new d) ρ):WR (.new d) ρ R:=r
theorem YJ(r:R (.val d) ρ):WR (.val d) ρ R:=r
theorem YR{a b:FS}(h:Wt t ρ fun c ρ1=>Wif c (Ws a ρ1 N R B C) (Ws b ρ1 N R B C)):Ws (sIf t a b) ρ N R B C:=by
 obtain⟨c,ρ1,h1,h2,h3⟩:=h;cases c with
 |true=>obtain⟨o,h4,q⟩:=h2 rfl;exact⟨_,by unfold sIf;rw[h1];exact h4,q⟩
 |false=>obtain⟨o,h4,q⟩:=h3 rfl;exact⟨_,by unfold sIf;rw[h1];exact h4,q⟩
theorem YX{i:Nat}{ds0:List Dat}(h:We e ρ fun x ρ1=>Wk ρ1 x fun d ρ2=>∃ds ρ3,ρ2[i]?=some (.ow (.lst ds))/\ρ2.set i (.ow (.lst (ds++[d])))=ρ3/\N ρ3/\ds.length<SZ)(h0:ρ[i]?=some (.ow (.lst ds0))):Ws (dF i e) ρ N R B C:=by obtain⟨x,ρ1,h1,d,ρ2,h2,ds,ρ3,h3,h5,n,h4⟩:=h;exact⟨.nx _,by unfold dF;rw[h0];dsimp only;rw[h1];dsimp only;rw[h2];dsimp only;rw[h3];dsimp only;rw[if_pos h4,h5],n⟩
theorem Y6{it:FI}(h:Wi it ρ fun ds ρ1=>Ws (kD bd body ds) ρ1 N R B C):Ws (dc it bd body) ρ N R B C:=by obtain⟨ds,ρ1,h1,o,h2,h3⟩:=h;exact⟨o,by unfold dc;rw[h1];exact h2,h3⟩
theorem Y5(RP:α->Dat)(bd:FB)(body:FS)(xs:List α)(ρ:Env)(N:Env->Prop)(R:RV->Env->Prop)(B C:Env->Prop)(I:List α->List α->Env->Prop)
  (h0:I [] xs ρ) (hs:∀p x q ρ,xs=p++x::q->I p (x::q) ρ->∃ρ1,bd (RP x) ρ=some ρ1/\Ws body ρ1 (fun ρ2=>I (p++[x]) q ρ2) R N (fun ρ2=>I (p++[x]) q ρ2)) (he:∀ρ,I xs [] ρ->N ρ):Ws (kD bd body (xs.map RP)) ρ N R B C:=by
 have go:∀(q p:List α) (ρ:Env),xs=p++q->I p q ρ->Ws (kD bd body (q.map RP)) ρ N R B C:=fun q=>by
  induction q with
  |nil=>intro p ρ e i;rw[U3]at e;exact⟨.nx _,rfl,he ρ (e▸i)⟩
  |cons x q ih=>
   intro p ρ e i;obtain⟨ρ1,h1,o,h2,h3⟩:=hs p x q ρ e i;have e':xs=(p++[x])++q:=by rw[VC];exact e
   cases o with
   |nx ρ2=>obtain⟨o,h4,h5⟩:=ih _ _ e' h3;exact⟨o,by rw[Uc,kD,h1];dsimp only;rw[h2];exact h4,h5⟩
   |ct ρ2=>obtain⟨o,h4,h5⟩:=ih _ _ e' h3;exact⟨o,by rw[Uc,kD,h1];dsimp only;rw[h2];exact h4,h5⟩
   |bk ρ2=>exact⟨.nx _,by rw[Uc,kD,h1];dsimp only;rw[h2],h3⟩
   |ret r ρ2=>exact⟨.ret _ _,by rw[Uc,kD,h1];dsimp only;rw[h2],h3⟩
 exact go xs [] ρ rfl h0
theorem Yr{n m:Nat}{P:RV->Prop}(b:Ws body ρ (fun _=>P (.val .non)) (fun r _=>P r) (fun _=>False) (fun _=>False))(hρ:ds.map Cell.sh++fj m .un=ρ)(h:ds.length=n):Wr (fn n m body ds) P:=by
 obtain⟨o,h1,h2⟩:=b;cases o with
 |nx ρ1=>exact⟨_,by unfold Dm.fn;rw[if_pos h,hρ,h1],h2⟩
 |ret r ρ1=>exact⟨_,by unfold Dm.fn;rw[if_pos h,hρ,h1],h2⟩
 |bk ρ1=>exact h2.elim
 |ct ρ1=>exact h2.elim
theorem Yt{o:Option RV}{r:RV}(h:Wr o fun x=>x=r):o=some r:=by obtain⟨x,h1,rfl⟩:=h;exact h1
theorem Jh(RP:α->Dat)(p:α->Bool)(v:α->Dat)(bd:FB)(t:FT)(el:FE)(mk:Cell->Env)(hb:∀d c,bd d (mk c)=some (mk (.sh d))):∀(xs:List α) (c:Cell) (Mc:List Dat),
  (∀x∈xs,t (mk (.sh (RP x)))=some (p x,mk (.sh (RP x))))->(∀x∈xs,p x=true->We el (mk (.sh (RP x))) fun w ρ'=>Wk ρ' w fun d ρ''=>d=v x/\ρ''=mk (.sh (RP x))) ->
  ∃c',nX bd t el (xs.map RP) (mk c) Mc=some (Mc++(xs.filter p).map v,mk c')
 |[],c,Mc,_,_=>⟨c,by simp[nX]⟩
 |x::xs,c,Mc,ht,he=>by
  rw[Uc,nX,hb];dsimp only;rw[ht x Uj];have ht':=fun y hy=>ht y (Ue _ hy);have he':=fun y hy=>he y (Ue _ hy);by_cases h:p x=true
  ·obtain⟨w,ρ',h1,d,ρ'',h2,rfl,rfl⟩:=he x Uj h;rw[h];dsimp only;rw[h1];dsimp only;rw[h2];obtain⟨c',e⟩:=Jh RP p v bd t el mk hb xs (.sh (RP x)) (Mc++[v x]) ht' he';exact⟨c',by dsimp only;rw[e,List.filter_cons_of_pos h];simp⟩
  ·rw[Bool.not_eq_true]at h;rw[h];obtain⟨c',e⟩:=Jh RP p v bd t el mk hb xs (.sh (RP x)) Mc ht' he';exact⟨c',by dsimp only;rw[e,List.filter_cons_of_neg (by rw[h];decide)]⟩
theorem YN(h:Wt t ρ fun c' ρ'=>c'=c/\ρ'=ρ):t ρ=some (c,ρ):=by obtain⟨_,_,h1,rfl,rfl⟩:=h;exact h1
theorem Ze(RP:α->Dat)(xs:List α)(p:α->Bool)(v:α->Dat){it:FI}{k:Nat}{t:FT}{el:FE}{ρ ρ1:Env}{Q:Val->Env->Prop}
  (q:Q (.new (.lst ((xs.filter p).map v))) ρ1) (ZI:it ρ=some (xs.map RP,ρ1)) (hk:ρ1.length=k) (hk0:k≠0) (hl:xs.length<=SZ)
  (ht:∀x∈xs,Wt t (ρ1++[.sh (RP x)]) fun c ρ'=>c=p x/\ρ'=ρ1++[.sh (RP x)])
  (he:∀x∈xs,p x=true->We el (ρ1++[.sh (RP x)]) fun w ρ'=>Wk ρ' w fun d ρ''=>d=v x/\ρ''=ρ1++[.sh (RP x)]):We (nF it 1 (bN k) t el) ρ Q:=by
 have bd:∀(d:Dat) (c:Cell),bN k d (ρ1++[c])=some (ρ1++[.sh d]):=fun d c=>by unfold bN;rw[if_neg hk0,List.set_append_right _ _ (by lia)];simp[hk]
 obtain⟨c',e⟩:=Jh RP p v (bN k) t el (fun c=>ρ1++[c]) bd xs .un [] (fun x hx=>YN (ht x hx)) he;refine⟨_,_,?_,q⟩;unfold nF;rw[ZI];dsimp only;rw[if_pos (by rw[Ud];exact hl)];show (match nX _ _ _ _ (ρ1++[.un]) [] with | none=>none | some (ys,ρ2)=>some (Val.new (.lst ys),ρ2.take ρ1.length))=_;rw[e];dsimp only;rw[Uk,List.take_left]
theorem ZD(RP:α->Dat)(xs:List α)(p:α->Bool)(v:α->Dat){i:Nat}{k:Nat}{t:FT}{el:FE}{ρ:Env}{Q:Val->Env->Prop}{d:Dat}
  (q:Q (.new (.lst ((xs.filter p).map v))) ρ) (hi:ρ[i]?=some (.sh d)) (hd:L5 d=some (xs.map RP)) (hk:ρ.length=k) (hk0:k≠0) (hl:xs.length<=SZ)
  (ht:∀x∈xs,Wt t (ρ++[.sh (RP x)]) fun c ρ'=>c=p x/\ρ'=ρ++[.sh (RP x)])
  (he:∀x∈xs,p x=true->We el (ρ++[.sh (RP x)]) fun w ρ'=>Wk ρ' w fun d ρ''=>d=v x/\ρ''=ρ++[.sh (RP x)]):We (g9 i 1 (bN k) t el) ρ Q:=by
 have ZI:iS (eV i) ρ=some (xs.map RP,ρ):=by
  unfold iS eV;rw[hi];cases d with
  |lst ys=>cases hd;rfl
  |tup ys=>cases hd;rfl
  |_=>cases hd
 obtain⟨a,ρ',h1,h2⟩:=Ze RP xs p v (Q:=Q) q ZI hk hk0 hl ht he;refine⟨a,ρ',?_,h2⟩;unfold g9;rw[hi];exact h1
theorem Za{α β:Type}(RP:α->Dat)(xs:List α)(f:α->β)(DL:β->Dat){it:FI}{k:Nat}{el:FE}{ρ ρ1:Env}{Q:Val->Env->Prop}
  (q:Q (.new (.lst ((xs.map f).map DL))) ρ1) (ZI:it ρ=some (xs.map RP,ρ1)) (hk:ρ1.length=k) (hk0:k≠0) (hl:xs.length<=SZ)
  (he:∀x∈xs,We el (ρ1++[.sh (RP x)]) fun w ρ'=>Wk ρ' w fun d ρ''=>d=DL (f x)/\ρ''=ρ1++[.sh (RP x)]):We (nF it 1 (bN k) bD el) ρ Q:=
 Ze RP xs (fun _=>true) (fun x=>DL (f x)) (by rw[List.filter_eq_self.mpr (fun _ _=>rfl)];rw[Wf]at q;exact q) ZI hk hk0 hl (fun _ _=>Zj ⟨rfl,rfl⟩) fun x hx _=>he x hx
theorem Zn{α β:Type}(RP:α->Dat)(xs:List α)(f:α->β)(DL:β->Dat){i:Nat}{k:Nat}{el:FE}{ρ:Env}{Q:Val->Env->Prop}{d:Dat}
  (q:Q (.new (.lst ((xs.map f).map DL))) ρ) (hi:ρ[i]?=some (.sh d)) (hd:L5 d=some (xs.map RP)) (hk:ρ.length=k) (hk0:k≠0) (hl:xs.length<=SZ)
  (he:∀x∈xs,We el (ρ++[.sh (RP x)]) fun w ρ'=>Wk ρ' w fun d ρ''=>d=DL (f x)/\ρ''=ρ++[.sh (RP x)]):We (g9 i 1 (bN k) bD el) ρ Q:=
 ZD RP xs (fun _=>true) (fun x=>DL (f x)) (by rw[List.filter_eq_self.mpr (fun _ _=>rfl)];rw[Wf]at q;exact q) hi hd hk hk0 hl (fun _ _=>Zj ⟨rfl,rfl⟩) fun x hx _=>he x hx
theorem L6(i j:Int):gEq (.int i) (.int j)=vB (decide (i=j)):=by
 have:(i == j)=decide (i=j):=by by_cases h:i=j<;>simp[h]
 show vB (i == j)=_;rw[this]
theorem L7(i j:Int):gNe (.int i) (.int j)=vB (!decide (i=j)):=by
 have:(i == j)=decide (i=j):=by by_cases h:i=j<;>simp[h]
 show vB (!(i == j))=_;rw[this]
theorem YM(k:K (.val (.bl (decide (i=j)))))(ho:o=some (.int i))(hp:p=some (.int j)):Wg2 gEq o p K:=⟨_,_,_,ho,hp,L6 i j,k⟩
theorem Zi(k:K (.val (.bl (!decide (i=j)))))(ho:o=some (.int i))(hp:p=some (.int j)):Wg2 gNe o p K:=⟨_,_,_,ho,hp,L7 i j,k⟩
theorem Y9(k:K (.val (.bl (decide (j<i)))))(ho:o=some (.int i))(hp:p=some (.int j)):Wg2 gGt o p K:=⟨_,_,_,ho,hp,rfl,k⟩
theorem YZ(k:K (.val (.int (i+j))))(ho:o=some (.int i))(hp:p=some (.int j)):Wg2 bh o p K:=⟨_,_,_,ho,hp,rfl,k⟩
theorem YV{xs ys:List Dat}(k:K (.new (.lst (xs++ys))))(ho:o=some (.lst xs))(hp:p=some (.lst ys))(h:xs.length+ys.length<=SZ):Wg2 bh o p K:=⟨_,_,_,ho,hp,by unfold bh;dsimp only;rw[if_pos h],k⟩
theorem YQ(k:K (.val (.int (i-j))))(ho:o=some (.int i))(hp:p=some (.int j)):Wg2 dG o p K:=⟨_,_,_,ho,hp,rfl,k⟩
theorem YF(k:K (.val (.int (i % j))))(ho:o=some (.int i))(hp:p=some (.int j))(h:0<j):Wg2 bu o p K:=⟨_,_,_,ho,hp,by unfold bu;dsimp only;rw[if_pos h],k⟩
theorem YT{i j z:Int}(k:K (.val (.int z)))(ho:o=some (.int i))(hp:p=some (.int j))(h:0<=j/\j<=1000000/\i.natAbs<1000000)(hz:i ^ j.toNat=z):Wg2 cX o p K:=⟨_,_,_,ho,hp,by unfold cX;dsimp only;rw[if_pos h,hz],k⟩
theorem Yv{d e:Dat}{v:Dat}(k:K (.val v))(ho:o=some d)(hp:p=some e)(h:gIx d e=some (.val v)):Wg2 gIx o p K:=⟨_,_,_,ho,hp,h,k⟩
theorem Bb(RP:α->Dat)(xs:List α)(i:Int)(h0:0<=i)(h1:i<xs.length):atI (xs.map RP) i=some (RP (xs[i.toNat]'(by omega))):=by unfold atI ixN;rw[Ud,if_pos h0,if_pos h1];show (xs.map RP)[i.toNat]?=_;rw[UX,Uz (by lia)];rfl
theorem L_(i:Int)(xs:List Int):inD (.int i) (xs.map Dat.int)=decide (i∈xs):=by
 induction xs with
 |nil=>rfl
 |cons x xs ih=>
  have ih':(xs.map Dat.int).any (fun y=>eqD y (.int i))=decide (i∈xs):=ih;unfold inD;rw[Uc,List.any_cons,ih'];show ((x == i)||_)=_;by_cases h:x=i
  ·simp[h]
  ·have h':¬i=x:=fun z=>h z.symm;simp[h,h']
theorem Ph(xs:List Int):(xs.map Dat.int).all (okD 7)=true:=by rw[Vd];intro d hd;obtain⟨x,_,rfl⟩:=U0.mp hd;rfl
theorem Zy{i:Int}{xs:List Int}(k:K (.val (.bl (!decide (i∈xs)))))(ho:o=some (.int i))(hp:p=some (.lst (xs.map Dat.int))):Wg2 uW o p K:=
 ⟨_,_,_,ho,hp,by unfold uW;dsimp only;rw[show okD 8 (.int i)=true from rfl,Ph,L_];rfl,k⟩
theorem Zx{o:Option (List Dat)}(k:K (.val (.int xs.length)))(ho:o=some [.lst xs]):WB ck o K:=⟨_,_,ho,rfl,k⟩
theorem ZG{o:Option (List Dat)}(k:K (.val (.int xs.length)))(ho:o=some [.tup xs]):WB ck o K:=⟨_,_,ho,rfl,k⟩
theorem Zr{o:Option (List Dat)}(k:K (.val (.int (if j<i then j else i))))(ho:o=some [.int i,.int j]):WB b4 o K:=⟨_,_,ho,rfl,k⟩
theorem Zq{o:Option (List Dat)}(k:K (.val (.int (if j>i then j else i))))(ho:o=some [.int i,.int j]):WB cu o K:=⟨_,_,ho,rfl,k⟩
theorem Zc{o:Option (List Dat)}(k:K (.new (.lst xs)))(ho:o=some [.lst xs]):WB cA o K:=⟨_,_,ho,rfl,k⟩
theorem Yq{o:Option Dat}(k:K v)(ho:o=some d)(h:g d=some v):Wg1 g o K:=⟨_,_,ho,h,k⟩
theorem Ma{Q:List Dat->Prop}(q:Q xs):∃ds,L5 (.lst xs)=some ds/\Q ds:=⟨_,rfl,q⟩
theorem Mb(xs:List Dat)(h:okD 8 (.lst xs)=true):gNe (.lst xs) (.lst [])=vB (!xs.isEmpty):=by unfold gNe;rw[h];cases xs<;>rfl
theorem ZC(k:K (.val (.bl (!xs.isEmpty))))(ho:o=some (.lst xs))(hp:p=some (.lst []))(h:okD 8 (.lst xs)=true):Wg2 gNe o p K:=⟨_,_,_,ho,hp,Mb xs h,k⟩
theorem Zh{xs ys:List Int}(k:K (.new (.lst ((xs++ys).map Dat.int))))(ho:o=some (.lst (xs.map Dat.int)))(hp:p=some (.lst (ys.map Dat.int)))(h:xs.length+ys.length<=SZ):Wg2 bh o p K:=⟨_,_,_,ho,hp,by unfold bh;dsimp only;rw[Ud,Ud,if_pos h,Xp],k⟩
theorem Zs{xs:List Int}{y:Int}(k:K (.new (.lst ((xs++[y]).map Dat.int))))(ho:o=some (.lst (xs.map Dat.int)))(hp:p=some (.lst [.int y]))(h:xs.length+1<=SZ):Wg2 bh o p K:=Zh (ys:=[y]) k ho hp h
theorem Y4{RP:α->Dat}{xs:List α}{o:Option (List Dat)}(k:K (.val (.int xs.length)))(ho:o=some [.lst (xs.map RP)]):WB ck o K:=⟨_,_,ho,by unfold ck;dsimp only;rw[Ud],k⟩
theorem Zo{s:FS}{N N':Env->Prop}(h:Ws s ρ N' R B C)(k:∀ρ',N' ρ'->N ρ'):Ws s ρ N R B C:=by
 obtain⟨o,h1,h2⟩:=h;cases o with
 |nx ρ1=>exact⟨.nx ρ1,h1,k _ h2⟩
 |ret r ρ1=>exact⟨.ret r ρ1,h1,h2⟩
 |bk ρ1=>exact⟨.bk ρ1,h1,h2⟩
 |ct ρ1=>exact⟨.ct ρ1,h1,h2⟩
theorem Bc{ρ ρ1 ρ2:Env}{W:Env->Prop}(h:bd d ρ=some ρ1)(hn:ρ1=ρ2)(w:W ρ2):∃ρ1,bd d ρ=some ρ1/\W ρ1:=⟨ρ1,h,hn▸w⟩
theorem Zk{o:Option (List Dat)}(k:K (.val (.tup xs)))(ho:o=some [.lst xs]):WB bE o K:=⟨_,_,ho,rfl,k⟩
theorem yD(ns:List Int):nK (ns.map Dat.int)=some ns:=by
 induction ns with
 |nil=>rfl
 |cons m ms ih=>rw[Uc,nK,ih];rfl
theorem Gw(p:α->Bool)(xs:List α):bools (xs.map fun x=>Dat.bl (p x))=some (xs.map p):=by
 induction xs with
 |nil=>rfl
 |cons x xs ih=>rw[Uc,bools,ih];rfl
theorem Zv(p:α->Bool){xs:List α}{o:Option (List Dat)}(k:K (.val (.bl (xs.all p))))(ho:o=some [.lst (xs.map fun x=>Dat.bl (p x))]):WB zH o K:=⟨_,_,ho,by
 unfold zH;dsimp only;rw[Gw];have:(xs.map p).all id=xs.all p:=by rw[Yl];rfl
 dsimp only;rw[this],k⟩
theorem Zp(k:K (.val (.bl (Dm.isN d))))(ho:o=some d)(hp:p=some .non):Wg2 Ge o p K:=⟨_,_,_,ho,hp,by cases d<;>rfl,k⟩
theorem Yx(J:Env->Prop)(h1:Ws s ρ J R B C)(h2:∀ρ',J ρ'->Ws u ρ' N R B C):Ws (aO s u) ρ N R B C:=Yo (Zo h1 h2)
theorem Y7{ρ ρ':Env}{v:Val}(h:We e ρ fun x y=>x=v/\y=ρ'):e ρ=some (v,ρ'):=by obtain⟨_,_,h1,rfl,rfl⟩:=h;exact h1
end
end Dm
namespace P
open Dm
noncomputable def Me:List Dat->Option RV:=fn 1 0
  (sR (dI (e1 (tK isI) (eV 0)) (eW (e1 (tK isB) (eV 0)))))
noncomputable def zR:List Dat->Option RV:=fn 3 0
  (sR (dI (eF Me [(eV 0)]) (bH gLe gLe (eV 1) (eV 0) (eV 2))))
noncomputable def lD:List Dat->Option RV:=fn 1 0
  (sR (eF zR [(eV 0),(eC (.int 1)),(eC (.int 10))]))
noncomputable def DM:List Dat->Option RV:=fn 2 0
  (sR (eF zR [(eV 1),(eC (.int 0)),(e2 dG (eV 0) (eC (.int 1)))]))
noncomputable def Gx:List Dat->Option RV:=fn 1 0
  (sR (eF zR [(eV 0),(eC (.int 0)),(e2 cX (eC (.int 10)) (eC (.int 30)))]))
noncomputable def kJ:List Dat->Option RV:=fn 2 0
  (aO (sIf (tOr (bM (tV (e1 (tK isT) (eV 1)))) (tV (e2 gNe (eB ck [(eV 1)]) (eC (.int 3))))) (sR (eC (.bl false))) sNx)
  (sR (dI (eF Gx [(e2 gIx (eV 1) (eC (.int 0)))]) (dI (eF DM [(eV 0),(e2 gIx (eV 1) (eC (.int 1)))]) (eF DM [(eV 0),(e2 gIx (eV 1) (eC (.int 2)))])))))
noncomputable def vf:List Dat->Option RV:=fn 1 0
  (sIf (bM (tV (eF lD [(eV 0)]))) (fun _=>none) sNx)
noncomputable def cM:List Dat->Bool:=fnX 1 0
  (rIf (bM (tV (eF lD [(eV 0)]))) Lw rNo)
noncomputable def DN:List Dat->Option RV:=fn 1 0
  (sR (bJ [(e2 gIx (eV 0) (eC (.int 0))),(eB b4 [(e2 gIx (eV 0) (eC (.int 1))),(e2 gIx (eV 0) (eC (.int 2)))]),(eB cu [(e2 gIx (eV 0) (eC (.int 1))),(e2 gIx (eV 0) (eC (.int 2)))])]))
noncomputable def qK:FS:=
  (sIf (tV (e2 gEq (e2 gIx (e2 gIx (eV 0) (e2 dG (eV 1) (eC (.int 1)))) (eC (.int 0))) (e2 gIx (e2 gIx (eV 0) (eV 1)) (eC (.int 0))))) (fun _=>none) sNx)
noncomputable def Mf:List Dat->Option RV:=fn 1 1
  (dc (iR2 (eC (.int 1)) (eB ck [(eV 0)])) (bN 1)
  qK)
noncomputable def cE(m:Int):List Dat->Bool:=fnX 1 1
  (Gn (iR2 (eC (.int 1)) (eB ck [(eV 0)])) (bN 1) qK
  (rIf (tV (e2 gEq (e2 gIx (e2 gIx (eV 0) (e2 dG (eV 1) (eC (.int 1)))) (eC (.int 0))) (e2 gIx (e2 gIx (eV 0) (eV 1)) (eC (.int 0))))) (vc (e2 gIx (e2 gIx (eV 0) (eV 1)) (eC (.int 0))) m) rNo))
noncomputable def Bd:List Dat->Option RV:=fn 2 1
  (aO (sE (eF vf [(eV 0)]))
  (aO (sIf (tOr (bM (tV (e1 (tK isL) (eV 1)))) (bM (tV (eB zH [(g9 1 1 (bN 3) bD (eF kJ [(eV 0),(eV 3)]))])))) (fun _=>none) sNx)
  (aO (sA 2 (e1 gf (g9 1 1 (bN 3) bD (eF DN [(eV 3)]))))
  (aO (sIf (tV (e2 gGt (eB ck [(eV 2)]) (eC (.int 60)))) (fun _=>none) sNx)
  (aO (sE (eF Mf [(eV 2)]))
  (sR (eV 2)))))))
noncomputable def aX:List Dat->Bool:=fnX 2 1
  (jd cM [(eV 0)])
noncomputable def bw:List Dat->Bool:=fnX 2 1
  (u_ (sE (eF vf [(eV 0)])) (rOr (rIf (tOr (bM (tV (e1 (tK isL) (eV 1)))) (bM (tV (eB zH [(g9 1 1 (bN 3) bD (eF kJ [(eV 0),(eV 3)]))])))) Lw rNo) (u_ (sIf (tOr (bM (tV (e1 (tK isL) (eV 1)))) (bM (tV (eB zH [(g9 1 1 (bN 3) bD (eF kJ [(eV 0),(eV 3)]))])))) (fun _=>none) sNx) (u_ (sA 2 (e1 gf (g9 1 1 (bN 3) bD (eF DN [(eV 3)])))) (rIf (tV (e2 gGt (eB ck [(eV 2)]) (eC (.int 60)))) Lw rNo)))))
noncomputable def cN(m:Int):List Dat->Bool:=fnX 2 1
  (u_ (sE (eF vf [(eV 0)])) (u_ (sIf (tOr (bM (tV (e1 (tK isL) (eV 1)))) (bM (tV (eB zH [(g9 1 1 (bN 3) bD (eF kJ [(eV 0),(eV 3)]))])))) (fun _=>none) sNx) (u_ (sA 2 (e1 gf (g9 1 1 (bN 3) bD (eF DN [(eV 3)])))) (u_ (sIf (tV (e2 gGt (eB ck [(eV 2)]) (eC (.int 60)))) (fun _=>none) sNx) (jd (cE m) [(eV 2)])))))
noncomputable def E8:List Dat->Option RV:=fn 2 1
  (aO (sA 2 (e2 bu (e2 cH (e2 bh (e2 bh (e2 bu (eV 0) (eC (.int 2147483629))) (e2 cH (eC (.int 7919)) (eV 1))) (eC (.int 11))) (eC (.int 48271))) (eC (.int 2147483647))))
  (aO (sA 2 (e2 bu (e2 bh (e2 bu (e2 cH (eV 2) (eV 2)) (eC (.int 2147483629))) (e2 cH (eC (.int 104729)) (eV 1))) (eC (.int 2147483629))))
  (sR (e2 bu (e2 cH (eV 2) (eC (.int 39373))) (eC (.int 2147483647))))))
noncomputable def vg:FS:=
  (aO (sA 6 (e2 bh (e2 cH (eV 6) (eC (.int 2147483647))) (eF E8 [(eV 0),(e2 bh (e2 cH (eC (.int 8)) (eV 5)) (eV 7))])))
  (sA 7 (e2 bh (eV 7) (eC (.int 1)))))
noncomputable def Be:FS:=
  (aO (sA 6 (eV 4))
  (aO (sIf (tV (e2 gGt (eV 4) (eC (.int 0)))) (sA 4 (e2 cK (eV 4) (eV 2))) (aO (sA 6 (eC (.int 0)))
  (aO (sA 7 (eC (.int 0)))
  (whD (tV (e2 gLt (e2 cH (eV 7) (eC (.int 30))) (e2 bh (e1 bX (eV 2)) (eC (.int 8)))))
  vg 100))))
  (dF 3 (e2 bu (eV 6) (eV 2)))))
noncomputable def Cu:List Dat->Option RV:=fn 3 5
  (aO (sA 3 (bS []))
  (aO (sA 4 (e2 dG (eV 0) (e2 cX (eC (.int 10)) (eC (.int 18)))))
  (aO (dc (iR1 (eV 1)) (bN 5)
  Be)
  (sR (eV 3)))))
noncomputable def E9:List Dat->Option RV:=fn 4 1
  (aO (sA 4 (e2 bu (eV 2) (eV 0)))
  (aO (sIf (tV (e2 gEq (eV 1) (eC (.int 0)))) (sR (bJ [(eV 4),(e2 bu (eV 3) (eV 0))])) sNx)
  (aO (sIf (tV (e2 gEq (eV 1) (eC (.int 1)))) (sR (bJ [(e2 bu (eV 2) (eB b4 [(eV 0),(eC (.int 3))])),(e2 bu (eV 3) (eB b4 [(eV 0),(eC (.int 2))]))])) sNx)
  (aO (sIf (tV (e2 gEq (eV 1) (eC (.int 2)))) (sR (bJ [(eV 4),(e2 bu (e2 bh (e2 bh (eV 4) (eC (.int 1))) (e2 cK (e2 bu (eV 3) (eC (.int 5))) (eC (.int 4)))) (eV 0))])) sNx)
  (sR (bJ [(eV 4),(e2 bu (e2 bh (eV 4) (e2 cH (eC (.int 2)) (e2 bu (eV 3) (eV 0)))) (eV 0))]))))))
noncomputable def Bf:FS:=
  (aO (sU [8,9] (eF E9 [(eV 2),(e2 bu (e2 gIx (eV 0) (eC (.int 3))) (eC (.int 4))),(e2 gIx (eV 0) (e2 bh (eC (.int 4)) (e2 cH (eC (.int 3)) (eV 7)))),(e2 gIx (eV 0) (e2 bh (eC (.int 5)) (e2 cH (eC (.int 3)) (eV 7))))]))
  (aO (dF 6 (bJ [(eV 5),(eB b4 [(eV 8),(eV 9)]),(eB cu [(eV 8),(eV 9)])]))
  (sA 5 (e2 bh (e2 bh (eV 5) (eC (.int 1))) (e2 bu (e2 gIx (eV 0) (e2 bh (eC (.int 6)) (e2 cH (eC (.int 3)) (eV 7)))) (eV 4))))))
noncomputable def E_:List Dat->Option RV:=fn 2 8
  (aO (sA 2 (e2 bh (eC (.int 1)) (e2 bu (e2 gIx (eV 0) (eC (.int 0))) (eC (.int 6)))))
  (aO (sIf (tV (e2 gEq (e2 bu (e2 cK (e2 gIx (eV 0) (eC (.int 0))) (eC (.int 6))) (eC (.int 8))) (eC (.int 1)))) (sA 2 (e2 bh (eC (.int 7)) (e2 bu (e2 cK (e2 gIx (eV 0) (eC (.int 0))) (eC (.int 48))) (eC (.int 4))))) sNx)
  (aO (sA 3 (e2 bu (e2 gIx (eV 0) (eC (.int 1))) (eC (.int 13))))
  (aO (sIf (tV (e2 gEq (e2 bu (e2 cK (e2 gIx (eV 0) (eC (.int 1))) (eC (.int 13))) (eC (.int 8))) (eC (.int 1)))) (sA 3 (e2 bh (eC (.int 13)) (e2 bu (e2 cK (e2 gIx (eV 0) (eC (.int 1))) (eC (.int 104))) (eC (.int 48))))) sNx)
  (aO (sA 4 (e2 gIx (bS [(eC (.int 1)),(eC (.int 4)),(e2 cX (eC (.int 10)) (eC (.int 28)))]) (e2 bu (e2 gIx (eV 0) (eC (.int 2))) (eC (.int 3)))))
  (aO (sA 5 (e2 gIx (bS [(eC (.int 0)),(e2 bu (e2 cK (e2 gIx (eV 0) (eC (.int 2))) (eC (.int 12))) (eC (.int 100))),(e2 bu (e2 gIx (eV 0) (eC (.int 3))) (e2 cX (eC (.int 10)) (eC (.int 29))))]) (e2 bu (e2 cK (e2 gIx (eV 0) (eC (.int 2))) (eC (.int 3))) (eC (.int 3)))))
  (aO (sA 6 (bS []))
  (aO (dc (iR1 (eB cG [(eV 3),(eV 1),(e2 cK (e2 dG (eB ck [(eV 0)]) (eC (.int 4))) (eC (.int 3)))])) (bN 7)
  Bf)
  (sR (bJ [(eV 2),(eV 6)]))))))))))
noncomputable def i9(aH aN aU aI aP aY aQ aR aK aZ aS:Nat):List Dat->Option RV:=fn 1 1
  (aO (sA 1 (bS [(e1 (eY [aH,aN,aU,aI,aP,aY,aQ,aR,aK,aZ,aS] [true,false,false,false,false,false,false,false,false,false,false]) (eV 0)),(e1 (eY [aH,aN,aU,aI,aP,aY,aQ,aR,aK,aZ,aS] [false,true,false,false,false,false,false,false,false,false,false]) (eV 0)),(e1 (eY [aH,aN,aU,aI,aP,aY,aQ,aR,aK,aZ,aS] [false,false,true,false,false,false,false,false,false,false,false]) (eV 0))]))
  (aO (sA 1 (e2 bh (eV 1) (bS [(e1 (eY [aH,aN,aU,aI,aP,aY,aQ,aR,aK,aZ,aS] [false,false,false,true,false,false,false,false,false,false,false]) (eV 0)),(e1 (eY [aH,aN,aU,aI,aP,aY,aQ,aR,aK,aZ,aS] [false,false,false,false,true,false,false,false,false,false,false]) (eV 0)),(e1 (eY [aH,aN,aU,aI,aP,aY,aQ,aR,aK,aZ,aS] [false,false,false,false,false,true,false,false,false,false,false]) (eV 0))])))
  (aO (sA 1 (e2 bh (eV 1) (bS [(e1 (eY [aH,aN,aU,aI,aP,aY,aQ,aR,aK,aZ,aS] [false,false,false,false,false,false,true,false,false,false,false]) (eV 0)),(e1 (eY [aH,aN,aU,aI,aP,aY,aQ,aR,aK,aZ,aS] [false,false,false,false,false,false,false,true,false,false,false]) (eV 0)),(e1 (eY [aH,aN,aU,aI,aP,aY,aQ,aR,aK,aZ,aS] [false,false,false,false,false,false,false,false,true,false,false]) (eV 0))])))
  (sR (e2 bh (eV 1) (bS [(e1 (eY [aH,aN,aU,aI,aP,aY,aQ,aR,aK,aZ,aS] [false,false,false,false,false,false,false,false,false,true,false]) (eV 0)),(e1 (eY [aH,aN,aU,aI,aP,aY,aQ,aR,aK,aZ,aS] [false,false,false,false,false,false,false,false,false,false,true]) (eV 0))]))))))
noncomputable def mU(aH aN aU aI aP aY aQ aR aK aZ aS:Nat):FS:=
  (aO (sIf (tOr (bM (tV (e1 (eY [aH,aN,aU,aI,aP,aY,aQ,aR,aK,aZ,aS] [true,true,true,true,true,true,true,true,true,true,true]) (e2 gIx (eV 1) (eV 2))))) (bM (tV (e1 (eY [aH,aN,aU,aI,aP,aY,aQ,aR,aK,aZ,aS] [true,true,true,true,true,true,true,true,true,true,true]) (e2 gIx (eV 1) (eV 2)))))) (sR (eC (.bl false))) sNx)
  (sIf (tV (e2 gNe (eF (i9 aH aN aU aI aP aY aQ aR aK aZ aS) [(e2 gIx (eV 1) (eV 2))]) (nF (iR1 (eB ck [(eV 1)])) 1 (bN 3) bD (e2 gEq (eV 3) (eV 2))))) (sR (eC (.bl false))) sNx))
noncomputable def k8(aH aN aU aI aP aY aQ aR aK aZ aS:Nat):List Dat->Option RV:=fn 0 3
  (aO (sA 1 (bS [(yz aH),(yz aN),(e1 (Jf aU) (eC (.int 7))),(yz aI),(yz aP),(yz aY),(yz aQ),(yz aR),(yz aK),(yz aZ)]))
  (aO (dF 1 (yz aS))
  (aO (dc (iR1 (eB ck [(eV 1)])) (bN 2)
  (mU aH aN aU aI aP aY aQ aR aK aZ aS))
  (sR (e2 gEq (e1 (Ck aU) (e2 gIx (eV 1) (eC (.int 2)))) (eC (.int 7)))))))
noncomputable def aT(aH aN aU aI aP aY aQ aR aK aZ aS:Nat):List Dat->Option RV:=fn 4 2
  (aO (sA 4 (eC .non))
  (aO (sUn (sE (eF Bd [(eV 0),(eV 1)])) (sUn (oE (jd aX [(eV 0),(eV 1)]) aH 5 (sA 4 (eV 5))) (sUn (oE (jd bw [(eV 0),(eV 1)]) aN 5 (sA 4 (eV 5))) (yw (fun m=>(jd (cN m) [(eV 0),(eV 1)])) aU 5 (sA 4 (eV 5))))))
  (aO (sIf (tOr (tV (e2 Ge (eV 4) (eC .non))) (tV (e2 gNe (eF (i9 aH aN aU aI aP aY aQ aR aK aZ aS) [(eV 4)]) (nF (iR1 (eC (.int 11))) 1 (bN 6) bD (e2 gEq (eV 6) (eV 2)))))) (sR (eC (.bl false))) sNx)
  (sR (eOr (e2 gNe (eV 2) (eC (.int 2))) (e2 gEq (e1 (Ck aU) (eV 4)) (eV 3)))))))
noncomputable def Fb:List Dat->Option RV:=fn 2 0
  (sR (e2 gIx (bS [(eC (.int 0)),(eC (.int 11)),(e1 eu (eC (.int 1))),(eC (.bl true)),(eC (.bl false)),(eC .non),(eC (.str [51])),(eC (.str [])),(bS [(eC (.int 3))]),(bJ [(eC (.int 3))]),(e2 bh (eC (.int 11)) (eV 0)),eDn]) (e2 bu (eV 1) (eC (.int 12)))))
noncomputable def Fc:List Dat->Option RV:=fn 3 1
  (aO (sA 3 (bS [(bJ [(eC (.int 0)),(eC (.int 0))]),(bJ [(eC (.int 0)),(eC (.int 0)),(eC (.int 0)),(eC (.int 0))]),(bS [(eC (.int 0)),(eC (.int 0)),(eC (.int 0))]),(eC .non),(eC (.int 5)),(eC (.str [48,58,48,45,48])),(bJ []),(bJ [(eC (.bl true)),(eC (.int 0)),(eC (.int 0))]),(bJ [(eC (.int 0)),(eC (.bl true)),(eC (.int 0))]),(bJ [(eC (.int 0)),(eC (.int 0)),(eC (.bl false))])]))
  (aO (sA 3 (e2 bh (eV 3) (bS [(bJ [(e1 eu (eC (.int 1))),(eC (.int 0)),(eC (.int 0))]),(bJ [(e2 dG (e1 eu (eC (.int 1))) (eV 1)),(eC (.int 0)),(eC (.int 0))]),(bJ [(e2 bh (e2 bh (e2 cX (eC (.int 10)) (eC (.int 30))) (eC (.int 1))) (eV 1)),(eC (.int 0)),(eC (.int 0))]),(bJ [(eC (.int 0)),(eV 0),(eC (.int 0))]),(bJ [(eC (.int 0)),(eC (.int 0)),(e2 bh (eV 0) (eV 1))]),(bJ [(eC (.int 0)),(e1 eu (eC (.int 1))),(eC (.int 0))])])))
  (aO (sA 3 (e2 bh (eV 3) (bS [(bJ [(eC (.int 0)),(eC (.int 0)),(e1 eu (eC (.int 1)))]),(bJ [(eC (.str [48])),(eC (.int 0)),(eC (.int 0))]),(bJ [(eC (.int 0)),(eC .non),(eC (.int 0))]),(bJ [(eC (.int 0)),(eC (.int 0)),(eC (.str [48]))]),(bJ [(eC (.int 0)),(bJ [(eC (.int 0))]),(eC (.int 0))]),(bJ [(eC (.int 0)),(eC (.int 0)),(bS [(eC (.int 0))])]),(eC (.bl true)),eDn])))
  (sR (e2 gIx (eV 3) (e2 bu (eV 2) (eC (.int 24))))))))
noncomputable def Fd:List Dat->Option RV:=fn 2 0
  (sR (nF (iR1 (e2 bh (eC (.int 61)) (e2 bu (eV 1) (eC (.int 10))))) 1 (bN 2) bD (bJ [(eV 2),(eC (.int 0)),(eC (.int 0))])))
noncomputable def DO:FS:=
  (aO (sU [6,7,8] (e2 gIx (eV 1) (e2 bu (eV 5) (eB ck [(eV 1)]))))
  (sIf (dB (tV (e2 gGt (eV 0) (eC (.int 1)))) (tV (e2 uW (eV 6) (eV 4)))) (aO (dF 4 (eV 6))
  (sIf (tV (e2 gEq (eV 7) (eV 8))) (dF 3 (bJ [(eV 6),(eV 7),(e2 bu (e2 bh (eV 7) (eC (.int 1))) (eV 0))])) (dF 3 (bJ [(eV 6),(eV 7),(eV 7)])))) sNx))
noncomputable def Cv:List Dat->Option RV:=fn 3 6
  (aO (sA 3 (eB cA [(eV 1)]))
  (aO (sA 4 (bS []))
  (aO (dc (iS (eV 2)) (bN 5)
  DO)
  (sR (bJ [(eV 3),(eV 4)])))))
noncomputable def DP(aH aN aU aI aP aY aQ aR aK aZ aS:Nat):FS:=
  (aO (sA 2 (eF Cu [(eV 1),(eC (.int 48)),(e2 cX (eC (.int 10)) (eC (.int 30)))]))
  (aO (sU [3,4] (eF E_ [(eSl (eV 2) (some (eC (.int 6))) none),(eC (.int 12))]))
  (aO (sA 5 (eF Fc [(eV 3),(e2 bu (e2 gIx (eV 2) (eC (.int 0))) (e2 cX (eC (.int 10)) (eC (.int 29)))),(e2 gIx (eV 2) (eC (.int 1)))]))
  (aO (sA 6 (e2 bu (e2 gIx (eV 2) (eC (.int 2))) (e2 bh (eB ck [(eV 4)]) (eC (.int 1)))))
  (aO (sA 7 (e2 bh (e2 bh (eSl (eV 4) none (some (eV 6))) (bS [(eV 5)])) (eSl (eV 4) (some (eV 6)) none)))
  (aO (sA 8 (eF Fb [(e2 gIx (eV 2) (eC (.int 0))),(e2 gIx (eV 2) (eC (.int 3)))]))
  (aO (sIf (tOr (bM (tV (eF (aT aH aN aU aI aP aY aQ aR aK aZ aS) [(eV 8),(eV 7),(eC (.int 0)),(eC (.int 0))]))) (bM (tV (eF (aT aH aN aU aI aP aY aQ aR aK aZ aS) [(eV 8),(eV 4),(eC (.int 0)),(eC (.int 0))])))) (sR (eC (.bl false))) sNx)
  (aO (sA 9 (e2 gIx (bS [(eB bE [(eV 4)]),(eC .non),(eC (.str [110,111,110,101])),(eC (.int 0))]) (e2 bu (e2 gIx (eV 2) (eC (.int 4))) (eC (.int 4)))))
  (aO (sIf (tOr (bM (tV (eF (aT aH aN aU aI aP aY aQ aR aK aZ aS) [(eV 3),(eV 7),(eC (.int 1)),(eC (.int 0))]))) (bM (tV (eF (aT aH aN aU aI aP aY aQ aR aK aZ aS) [(eV 3),(eV 9),(eC (.int 1)),(eC (.int 0))])))) (sR (eC (.bl false))) sNx)
  (aO (sIf (bM (tV (eF (aT aH aN aU aI aP aY aQ aR aK aZ aS) [(eV 3),(eF Fd [(eV 3),(e2 gIx (eV 2) (eC (.int 4)))]),(eC (.int 1)),(eC (.int 0))]))) (sR (eC (.bl false))) sNx)
  (sIf (dB (tV (e2 gNe (eV 4) (bS []))) (tV (e2 gGt (eV 3) (eC (.int 1))))) (aO (sU [10,11] (eF Cv [(eV 3),(eV 4),(eSl (eV 2) (some (eC (.int 4))) (some (eC (.int 6))))]))
  (aO (sA 12 (eB Ah [(eV 11)]))
  (aO (sIf (tOr (bM (tV (eF (aT aH aN aU aI aP aY aQ aR aK aZ aS) [(eV 3),(eV 10),(eC (.int 2)),(eV 12)]))) (bM (tV (eF (aT aH aN aU aI aP aY aQ aR aK aZ aS) [(eV 3),(e1 gk (eV 10)),(eC (.int 2)),(eV 12)])))) (sR (eC (.bl false))) sNx)
  (sIf (tOr (bM (tV (eF (aT aH aN aU aI aP aY aQ aR aK aZ aS) [(eV 3),(e2 bh (eV 10) (bS [(eV 5)])),(eC (.int 1)),(eC (.int 0))]))) (bM (tV (eF (aT aH aN aU aI aP aY aQ aR aK aZ aS) [(eV 8),(eV 10),(eC (.int 0)),(eC (.int 0))])))) (sR (eC (.bl false))) sNx)))) sNx)))))))))))
noncomputable def yE(aH aN aU aI aP aY aQ aR aK aZ aS:Nat):List Dat->Option RV:=fn 1 12
  (aO (dc (iS (e2 bh (eSl (eV 0) none (some (eC (.int 20)))) (bS [(eB ck [(eV 0)])]))) (bN 1)
  (DP aH aN aU aI aP aY aQ aR aK aZ aS))
  (sR (eF (k8 aH aN aU aI aP aY aQ aR aK aZ aS) [])))
end P
local macro_rules|`(tactic|trivial)=>`(tactic|first | (dsimp only[List.set];first | done | rfl) | rfl)
local macro_rules | `(tactic| array_get_dec)=>`(tactic| first | with_reducible refine Dm.Yo ?_ | with_reducible refine Dm.W_ ?_ | ((with_reducible apply Dm.U_);(focus rfl)) | ((with_reducible apply Dm.Yz);(focus rfl)) | with_reducible refine Dm.Yp ?_ | (refine Dm.YK ?_ (by trivial)) | (refine Dm.YL ?_ (by trivial)) | (refine Dm.WA.slot ?_ rfl (by trivial)) | with_reducible refine Dm.YE ?_ (by decide) | with_reducible refine Dm.YR ?_ | with_reducible refine Dm.YC ?_ | with_reducible refine Dm.YI ?_ | with_reducible refine Dm.Zg ?_ | with_reducible refine Dm.YY ?_ | with_reducible refine Dm.Zj ?_ | (refine Dm.Yw ?_) | (refine Dm.Cs.mk ?_) | with_reducible refine Dm.Zm ?_ | with_reducible refine Dm.YU ?_ | with_reducible refine Dm.V_ ?_ | with_reducible refine Dm.m_ ?_ | with_reducible refine Dm.YO ?_ | with_reducible refine Dm.YD ?_ | with_reducible refine Dm.Y8 ?_ | with_reducible refine Dm.Y0 ?_ | with_reducible refine Dm.Yu ?_ | with_reducible refine Dm.We.If ?_ | with_reducible refine Dm.Zz ?_ | with_reducible refine Dm.Zl ?_ | with_reducible refine Dm.Zt ?_ | with_reducible refine Dm.ZF ?_ | with_reducible refine Dm.We.SlT ?_ | with_reducible refine Dm.Wp.none ?_ | with_reducible refine Dm.Wp.some ?_ | (refine Dm.Wsl.A (RP:=Dat.int) ?_ rfl) | (refine Dm.Wsl.mk ?_ rfl) | (refine Dm.YG ?_ rfl (by trivial) (by exact Nat.le_of_ble_eq_true rfl)) | (refine Dm.Yy ?_) | (refine Dm.Wk.new ?_) | (refine Dm.Wk.slot ?_ rfl (by trivial)) | with_reducible refine Dm.We.Dn ?_ | with_reducible refine Dm.We.D1 ?_ | with_reducible refine Dm.Ws.T6 ?_ | (refine Dm.T7 ?_ rfl) | (refine Dm.TR rfl ?_) | (refine Dm.SK ?_ rfl (by trivial) ?_) | (refine Dm.YX ?_ rfl) | (refine Dm.TU ?_ rfl (by trivial) ?_) | with_reducible refine Dm.ZA ?_ | (refine Dm.Pg ?_ rfl (by trivial)) | with_reducible refine Dm.YA ?_ | (refine Dm.Y_ ?_) | (refine Dm.YJ ?_) | (refine Dm.WR.slot ?_ rfl) | with_reducible refine Dm.YW ?_ | with_reducible refine Dm.Ws.bk ?_ | with_reducible refine Dm.Ws.ct ?_ | with_reducible refine Dm.Ws.E ?_ | with_reducible refine Dm.Y6 ?_ | with_reducible refine Dm.Zu ?_ | with_reducible refine Dm.Wi.L ?_ | with_reducible refine Dm.Y3 ?_ | with_reducible refine Dm.Wi.R2 ?_ | (refine Dm.Ma ?_) | (refine Dm.SM ?_) | (refine Dm.YM ?_ rfl rfl) | (refine Dm.Zi ?_ rfl rfl) | (refine Dm.Wg2.T3 ?_ rfl rfl ?_) | (refine Dm.ZC ?_ rfl rfl ?_) | (refine Dm.Wg2.eqb ?_ rfl rfl) | (refine Dm.Wg2.neb ?_ rfl rfl) | (refine Dm.Wg2.TV ?_ rfl rfl) | (refine Dm.Wg2.isb ?_ rfl rfl) | (refine Dm.Wg2.lt ?_ rfl rfl) | (refine Dm.Wg2.le ?_ rfl rfl) | (refine Dm.Y9 ?_ rfl rfl) | (refine Dm.Wg2.ge ?_ rfl rfl) | (refine Dm.YZ ?_ rfl rfl) | (refine Dm.Zh ?_ rfl rfl ?_) | (refine Dm.Zs ?_ rfl rfl ?_) | (refine Dm.YV ?_ rfl rfl ?_) | (refine Dm.YQ ?_ rfl rfl) | (refine Dm.Wg2.mul ?_ rfl rfl (by first | exact Or.inl (by decide) | exact Or.inr (by decide))) | (refine Dm.Wg2.mul ?_ rfl rfl ?_) | (refine Dm.Wg2.div ?_ rfl rfl (by decide)) | (refine Dm.Wg2.div ?_ rfl rfl ?_) | (refine Dm.YF ?_ rfl rfl (by decide)) | (refine Dm.YF ?_ rfl rfl ?_) | (refine Dm.Wg2.din ?_ rfl rfl) | (refine Dm.Wg2.T8 ?_ rfl rfl) | (refine Dm.Wg2.inP ?_ rfl rfl) | (refine Dm.Wg2.T9 ?_ rfl rfl) | (refine Dm.Yv ?_ rfl rfl rfl) | (refine Dm.Y4 (RP:=Dat.int) ?_ rfl) | (refine Dm.Zx ?_ rfl) | (refine Dm.ZG ?_ rfl) | (refine Dm.Zr ?_ rfl) | (refine Dm.Zq ?_ rfl) | (refine Dm.Zc ?_ rfl) | (refine Dm.WB.int ?_ rfl) | (refine Dm.WB.sum2 ?_ rfl ?_) | (refine Dm.Wg1.T_ (RP:=Dat.int) ?_ rfl) | (refine Dm.Yq ?_ rfl rfl))
namespace P
open Dm
section
variable{ρ ρ1:Env}{ds:List Dat}{R S:Env->Option Env}{bad:List Dat->Bool}{xs:List Val}{N:Env->Prop}{Rr:Env->Option Env}{fs:List FE}{B C:Env->Prop}{n m:Nat}{cs:List Nat}{D:List Tie}{a b:FS}{t:FT}{body:FS}{h:FS}{f g:FS}
noncomputable def mixed(cell k:Int):Int:=
 let n1:=(cell % 2147483629+7919*k+11)*48271 % 2147483647
 let n2:=(n1*n1 % 2147483629+104729*k) % 2147483629
 n2*39373 % 2147483647
theorem inB{a m:Int}(h0:0<m)(h1:m<=18446744073709551616):-B64<a % m/\a % m<B64:=by
 have h2:=VQ a (Int.ne_of_gt h0);have h3:=VZ a h0;unfold B64
 lia
theorem Ji(cell k:Int):E8 [.int cell,.int k]=some (.val (.int (mixed cell k))):=by unfold E8 mixed;simp(config:={ decide:=true }) only[Dm.fn,Dm.aO,Dm.sA,Dm.sR,Dm.sE,Dm.sU,Dm.sIf,Dm.sNx,Dm.dF,Dm.dc,Dm.e1,Dm.e2,Dm.eB,Dm.eAs,Dm.eC,Dm.eV,Dm.bJ,Dm.bS,Dm.eF,Dm.eIf,Dm.dI,Dm.eOr,Dm.eW,Dm.tV,Dm.bM,Dm.dB,Dm.tOr,Dm.bD,Dm.pk,Dm.tk,Dm.pks,Dm.tks,RV.bI,RV.dat,Dm.bW,Dm.bh,Dm.dG,Dm.cH,Dm.cK,Dm.bu,Dm.cX,Dm.gLt,Dm.gLe,Dm.gGt,Dm.eu,Dm.bX,Dm.ck,Dm.b4,Dm.cu,Dm.cG,Dm.cA,Dm.bE,Dm.gk,Dm.isI,Dm.isB,Dm.isL,Dm.isT,Dm.vB,Dm.vI,Uc,UP,Ub,Us,Uk,Ur,fj,Ua,PU,Uq,Ul,Uo,US,if_true,if_false,UL,Dm.iR1,Dm.iR2,Dm.iS,Dm.bN,Dm.bT,Dm.sets,reduceIte,UA,Dm.bH,Uv,Uw,Up,Ux,true_or,or_true,true_and,and_true,decide_true,decide_false,false_or,or_false,false_and,and_false];rw[if_pos (Or.inl (inB (by decide) (by decide)))];simp(config:={ decide:=true }) only[Dm.fn,Dm.aO,Dm.sA,Dm.sR,Dm.sE,Dm.sU,Dm.sIf,Dm.sNx,Dm.dF,Dm.dc,Dm.e1,Dm.e2,Dm.eB,Dm.eAs,Dm.eC,Dm.eV,Dm.bJ,Dm.bS,Dm.eF,Dm.eIf,Dm.dI,Dm.eOr,Dm.eW,Dm.tV,Dm.bM,Dm.dB,Dm.tOr,Dm.bD,Dm.pk,Dm.tk,Dm.pks,Dm.tks,RV.bI,RV.dat,Dm.bW,Dm.bh,Dm.dG,Dm.cH,Dm.cK,Dm.bu,Dm.cX,Dm.gLt,Dm.gLe,Dm.gGt,Dm.eu,Dm.bX,Dm.ck,Dm.b4,Dm.cu,Dm.cG,Dm.cA,Dm.bE,Dm.gk,Dm.isI,Dm.isB,Dm.isL,Dm.isT,Dm.vB,Dm.vI,Uc,UP,Ub,Us,Uk,Ur,fj,Ua,PU,Uq,Ul,Uo,US,if_true,if_false,UL,Dm.iR1,Dm.iR2,Dm.iS,Dm.bN,Dm.bT,Dm.sets,reduceIte,UA,Dm.bH,Uv,Uw,Up,Ux,true_or,or_true,true_and,and_true,decide_true,decide_false,false_or,or_false,false_and,and_false]
theorem Cw(lo:Int):ups lo 0=[]:=rfl
theorem t8(lo:Int)(n:Nat):ups lo (n+1)=Dat.int lo::ups (lo+1) n:=by
 unfold ups;rw[List.range_succ_eq_map,Uc,Wf]
 congr 1
 ·simp
 ·apply Wg;intro i _;simp only[Function.comp,Dat.int.injEq]
  lia
noncomputable abbrev Z30:Int:=1000000000000000000000000000000
noncomputable def draw(cell k:Int):Int:=((mixed cell (8*k+0)*2147483647+mixed cell (8*k+1))*2147483647+mixed cell (8*k+2))*2147483647+mixed cell (8*k+3)
noncomputable def nums(cell:Int):Nat->Int->Int->List Int
 |0,_,_=>[]
 |n+1,k,left=>if 0<left then (left % Z30)::nums cell n (k+1) (left / Z30) else (draw cell k % Z30)::nums cell n (k+1) left
theorem Cy(cell:Int):∀n k left,(nums cell n k left).length=n
 |0,_,_=>rfl
 |n+1,k,left=>by unfold nums;split<;>simp[Cy cell n]
theorem Bg(cell:Int):∀n k left,∀x∈nums cell n k left,0<=x/\x<Z30
 |0,_,_,x,h=>by cases h
 |n+1,k,left,x,h=>by
  unfold nums at h;split at h
  ·rcases Ui.mp h with rfl | h
   ·exact⟨VQ _ (by decide),VZ _ (by decide)⟩
   ·exact Bg cell n _ _ x h
  ·rcases Ui.mp h with rfl | h
   ·exact⟨VQ _ (by decide),VZ _ (by decide)⟩
   ·exact Bg cell n _ _ x h
theorem Pj:bits Z30=100:=by decide
theorem RS(cell many left k:Int)(Mc:Dat) :
  whD (tV (e2 gLt (e2 cH (eV 7) (eC (.int 30))) (e2 bh (e1 bX (eV 2)) (eC (.int 8))))) vg 100
   [.sh (.int cell),.sh (.int many),.sh (.int Z30),.ow Mc,.sh (.int left),.sh (.int k),.sh (.int 0),.sh (.int 0)] =
  some (.nx [.sh (.int cell),.sh (.int many),.sh (.int Z30),.ow Mc,.sh (.int left),.sh (.int k),.sh (.int (draw cell k)),.sh (.int 4)]):=by
 have bt:=Pj;have one:∀(n:Nat) (num:Int) (t:Int),t=0\/t=1\/t=2\/t=3 ->
   whD (tV (e2 gLt (e2 cH (eV 7) (eC (.int 30))) (e2 bh (e1 bX (eV 2)) (eC (.int 8))))) vg (n+1)
    [.sh (.int cell),.sh (.int many),.sh (.int Z30),.ow Mc,.sh (.int left),.sh (.int k),.sh (.int num),.sh (.int t)] =
   whD (tV (e2 gLt (e2 cH (eV 7) (eC (.int 30))) (e2 bh (e1 bX (eV 2)) (eC (.int 8))))) vg n
    [.sh (.int cell),.sh (.int many),.sh (.int Z30),.ow Mc,.sh (.int left),.sh (.int k),.sh (.int (num*2147483647+mixed cell (8*k+t))),.sh (.int (t+1))]:=by
  intro n num t ht;rw[whD];have lt:(t*30<100+8)=True:=by simp only[eq_iff_iff,iff_true];lia
  have test:tV (e2 gLt (e2 cH (eV 7) (eC (.int 30))) (e2 bh (e1 bX (eV 2)) (eC (.int 8)))) [.sh (.int cell),.sh (.int many),.sh (.int Z30),.ow Mc,.sh (.int left),.sh (.int k),.sh (.int num),.sh (.int t)] =
    some (true,[.sh (.int cell),.sh (.int many),.sh (.int Z30),.ow Mc,.sh (.int left),.sh (.int k),.sh (.int num),.sh (.int t)]):=by
   simp(config:={ decide:=true }) only[Dm.fn,Dm.aO,Dm.sA,Dm.sR,Dm.sE,Dm.sU,Dm.sIf,Dm.sNx,Dm.dF,Dm.dc,Dm.e1,Dm.e2,Dm.eB,Dm.eAs,Dm.eC,Dm.eV,Dm.bJ,Dm.bS,Dm.eF,Dm.eIf,Dm.dI,Dm.eOr,Dm.eW,Dm.tV,Dm.bM,Dm.dB,Dm.tOr,Dm.bD,Dm.pk,Dm.tk,Dm.pks,Dm.tks,RV.bI,RV.dat,Dm.bW,Dm.bh,Dm.dG,Dm.cH,Dm.cK,Dm.bu,Dm.cX,Dm.gLt,Dm.gLe,Dm.gGt,Dm.eu,Dm.bX,Dm.ck,Dm.b4,Dm.cu,Dm.cG,Dm.cA,Dm.bE,Dm.gk,Dm.isI,Dm.isB,Dm.isL,Dm.isT,Dm.vB,Dm.vI,Uc,UP,Ub,Us,Uk,Ur,fj,Ua,PU,Uq,Ul,Uo,US,if_true,if_false,UL,Dm.iR1,Dm.iR2,Dm.iS,Dm.bN,Dm.bT,Dm.sets,reduceIte,UA,Dm.bH,Uv,Uw,Up,Ux,true_or,or_true,true_and,and_true,decide_true,decide_false,false_or,or_false,false_and,and_false];rw[bt];simp only[lt,decide_true]
  rw[test];have body:vg [.sh (.int cell),.sh (.int many),.sh (.int Z30),.ow Mc,.sh (.int left),.sh (.int k),.sh (.int num),.sh (.int t)] =
    some (.nx [.sh (.int cell),.sh (.int many),.sh (.int Z30),.ow Mc,.sh (.int left),.sh (.int k),.sh (.int (num*2147483647+mixed cell (8*k+t))),.sh (.int (t+1))]):=by
   unfold vg;simp(config:={ decide:=true }) only[Dm.fn,Dm.aO,Dm.sA,Dm.sR,Dm.sE,Dm.sU,Dm.sIf,Dm.sNx,Dm.dF,Dm.dc,Dm.e1,Dm.e2,Dm.eB,Dm.eAs,Dm.eC,Dm.eV,Dm.bJ,Dm.bS,Dm.eF,Dm.eIf,Dm.dI,Dm.eOr,Dm.eW,Dm.tV,Dm.bM,Dm.dB,Dm.tOr,Dm.bD,Dm.pk,Dm.tk,Dm.pks,Dm.tks,RV.bI,RV.dat,Dm.bW,Dm.bh,Dm.dG,Dm.cH,Dm.cK,Dm.bu,Dm.cX,Dm.gLt,Dm.gLe,Dm.gGt,Dm.eu,Dm.bX,Dm.ck,Dm.b4,Dm.cu,Dm.cG,Dm.cA,Dm.bE,Dm.gk,Dm.isI,Dm.isB,Dm.isL,Dm.isT,Dm.vB,Dm.vI,Uc,UP,Ub,Us,Uk,Ur,fj,Ua,PU,Uq,Ul,Uo,US,if_true,if_false,UL,Dm.iR1,Dm.iR2,Dm.iS,Dm.bN,Dm.bT,Dm.sets,reduceIte,UA,Dm.bH,Uv,Uw,Up,Ux,true_or,or_true,true_and,and_true,decide_true,decide_false,false_or,or_false,false_and,and_false];rw[Ji];simp(config:={ decide:=true }) only[Dm.fn,Dm.aO,Dm.sA,Dm.sR,Dm.sE,Dm.sU,Dm.sIf,Dm.sNx,Dm.dF,Dm.dc,Dm.e1,Dm.e2,Dm.eB,Dm.eAs,Dm.eC,Dm.eV,Dm.bJ,Dm.bS,Dm.eF,Dm.eIf,Dm.dI,Dm.eOr,Dm.eW,Dm.tV,Dm.bM,Dm.dB,Dm.tOr,Dm.bD,Dm.pk,Dm.tk,Dm.pks,Dm.tks,RV.bI,RV.dat,Dm.bW,Dm.bh,Dm.dG,Dm.cH,Dm.cK,Dm.bu,Dm.cX,Dm.gLt,Dm.gLe,Dm.gGt,Dm.eu,Dm.bX,Dm.ck,Dm.b4,Dm.cu,Dm.cG,Dm.cA,Dm.bE,Dm.gk,Dm.isI,Dm.isB,Dm.isL,Dm.isT,Dm.vB,Dm.vI,Uc,UP,Ub,Us,Uk,Ur,fj,Ua,PU,Uq,Ul,Uo,US,if_true,if_false,UL,Dm.iR1,Dm.iR2,Dm.iS,Dm.bN,Dm.bT,Dm.sets,reduceIte,UA,Dm.bH,Uv,Uw,Up,Ux,true_or,or_true,true_and,and_true,decide_true,decide_false,false_or,or_false,false_and,and_false]
  dsimp only;rw[body]
 rw[one 99 0 0 (by lia),one 98 _ (0+1) (by lia),one 97 _ (0+1+1) (by lia),one 96 _ (0+1+1+1) (by lia)];rw[whD];have test:∀num,tV (e2 gLt (e2 cH (eV 7) (eC (.int 30))) (e2 bh (e1 bX (eV 2)) (eC (.int 8)))) [.sh (.int cell),.sh (.int many),.sh (.int Z30),.ow Mc,.sh (.int left),.sh (.int k),.sh (.int num),.sh (.int (0+1+1+1+1))] =
    some (false,[.sh (.int cell),.sh (.int many),.sh (.int Z30),.ow Mc,.sh (.int left),.sh (.int k),.sh (.int num),.sh (.int (0+1+1+1+1))]):=by
  intro num;simp(config:={ decide:=true }) only[Dm.fn,Dm.aO,Dm.sA,Dm.sR,Dm.sE,Dm.sU,Dm.sIf,Dm.sNx,Dm.dF,Dm.dc,Dm.e1,Dm.e2,Dm.eB,Dm.eAs,Dm.eC,Dm.eV,Dm.bJ,Dm.bS,Dm.eF,Dm.eIf,Dm.dI,Dm.eOr,Dm.eW,Dm.tV,Dm.bM,Dm.dB,Dm.tOr,Dm.bD,Dm.pk,Dm.tk,Dm.pks,Dm.tks,RV.bI,RV.dat,Dm.bW,Dm.bh,Dm.dG,Dm.cH,Dm.cK,Dm.bu,Dm.cX,Dm.gLt,Dm.gLe,Dm.gGt,Dm.eu,Dm.bX,Dm.ck,Dm.b4,Dm.cu,Dm.cG,Dm.cA,Dm.bE,Dm.gk,Dm.isI,Dm.isB,Dm.isL,Dm.isT,Dm.vB,Dm.vI,Uc,UP,Ub,Us,Uk,Ur,fj,Ua,PU,Uq,Ul,Uo,US,if_true,if_false,UL,Dm.iR1,Dm.iR2,Dm.iS,Dm.bN,Dm.bT,Dm.sets,reduceIte,UA,Dm.bH,Uv,Uw,Up,Ux,true_or,or_true,true_and,and_true,decide_true,decide_false,false_or,or_false,false_and,and_false]
 rw[test];simp only[draw,Int.zero_mul,Int.zero_add];rfl
theorem RT:(10:Int) ^ (30:Int).toNat=Z30:=by decide
theorem Mg(cell many left k:Int)(Mc:List Dat)(c5 c6 c7:Cell)(hl:Mc.length<SZ) :
  ∃c6' c7',Be [.sh (.int cell),.sh (.int many),.sh (.int Z30),.ow (.lst Mc),.sh (.int left),.sh (.int k),c6,c7] =
   some (.nx [.sh (.int cell),.sh (.int many),.sh (.int Z30),.ow (.lst (Mc++[.int (if 0<left then left % Z30 else draw cell k % Z30)])),.sh (.int (if 0<left then left / Z30 else left)),.sh (.int k),c6',c7']):=by
 unfold Be;by_cases h:0<left
 ·refine⟨.sh (.int left),c7,?_⟩;simp(config:={ decide:=true }) only[Dm.fn,Dm.aO,Dm.sA,Dm.sR,Dm.sE,Dm.sU,Dm.sIf,Dm.sNx,Dm.dF,Dm.dc,Dm.e1,Dm.e2,Dm.eB,Dm.eAs,Dm.eC,Dm.eV,Dm.bJ,Dm.bS,Dm.eF,Dm.eIf,Dm.dI,Dm.eOr,Dm.eW,Dm.tV,Dm.bM,Dm.dB,Dm.tOr,Dm.bD,Dm.pk,Dm.tk,Dm.pks,Dm.tks,RV.bI,RV.dat,Dm.bW,Dm.bh,Dm.dG,Dm.cH,Dm.cK,Dm.bu,Dm.cX,Dm.gLt,Dm.gLe,Dm.gGt,Dm.eu,Dm.bX,Dm.ck,Dm.b4,Dm.cu,Dm.cG,Dm.cA,Dm.bE,Dm.gk,Dm.isI,Dm.isB,Dm.isL,Dm.isT,Dm.vB,Dm.vI,Uc,UP,Ub,Us,Uk,Ur,fj,Ua,PU,Uq,Ul,Uo,US,if_true,if_false,UL,Dm.iR1,Dm.iR2,Dm.iS,Dm.bN,Dm.bT,Dm.sets,reduceIte,UA,Dm.bH,Uv,Uw,Up,Ux,true_or,or_true,true_and,and_true,decide_true,decide_false,false_or,or_false,false_and,and_false];simp only[h,if_true,decide_true];simp(config:={ decide:=true }) only[Dm.fn,Dm.aO,Dm.sA,Dm.sR,Dm.sE,Dm.sU,Dm.sIf,Dm.sNx,Dm.dF,Dm.dc,Dm.e1,Dm.e2,Dm.eB,Dm.eAs,Dm.eC,Dm.eV,Dm.bJ,Dm.bS,Dm.eF,Dm.eIf,Dm.dI,Dm.eOr,Dm.eW,Dm.tV,Dm.bM,Dm.dB,Dm.tOr,Dm.bD,Dm.pk,Dm.tk,Dm.pks,Dm.tks,RV.bI,RV.dat,Dm.bW,Dm.bh,Dm.dG,Dm.cH,Dm.cK,Dm.bu,Dm.cX,Dm.gLt,Dm.gLe,Dm.gGt,Dm.eu,Dm.bX,Dm.ck,Dm.b4,Dm.cu,Dm.cG,Dm.cA,Dm.bE,Dm.gk,Dm.isI,Dm.isB,Dm.isL,Dm.isT,Dm.vB,Dm.vI,Uc,UP,Ub,Us,Uk,Ur,fj,Ua,PU,Uq,Ul,Uo,US,if_true,if_false,UL,Dm.iR1,Dm.iR2,Dm.iS,Dm.bN,Dm.bT,Dm.sets,reduceIte,UA,Dm.bH,Uv,Uw,Up,Ux,true_or,or_true,true_and,and_true,decide_true,decide_false,false_or,or_false,false_and,and_false];simp only[hl,if_true]
 ·refine⟨.sh (.int (draw cell k)),.sh (.int 4),?_⟩;simp(config:={ decide:=true }) only[Dm.fn,Dm.aO,Dm.sA,Dm.sR,Dm.sE,Dm.sU,Dm.sIf,Dm.sNx,Dm.dF,Dm.dc,Dm.e1,Dm.e2,Dm.eB,Dm.eAs,Dm.eC,Dm.eV,Dm.bJ,Dm.bS,Dm.eF,Dm.eIf,Dm.dI,Dm.eOr,Dm.eW,Dm.tV,Dm.bM,Dm.dB,Dm.tOr,Dm.bD,Dm.pk,Dm.tk,Dm.pks,Dm.tks,RV.bI,RV.dat,Dm.bW,Dm.bh,Dm.dG,Dm.cH,Dm.cK,Dm.bu,Dm.cX,Dm.gLt,Dm.gLe,Dm.gGt,Dm.eu,Dm.bX,Dm.ck,Dm.b4,Dm.cu,Dm.cG,Dm.cA,Dm.bE,Dm.gk,Dm.isI,Dm.isB,Dm.isL,Dm.isT,Dm.vB,Dm.vI,Uc,UP,Ub,Us,Uk,Ur,fj,Ua,PU,Uq,Ul,Uo,US,if_true,if_false,UL,Dm.iR1,Dm.iR2,Dm.iS,Dm.bN,Dm.bT,Dm.sets,reduceIte,UA,Dm.bH,Uv,Uw,Up,Ux,true_or,or_true,true_and,and_true,decide_true,decide_false,false_or,or_false,false_and,and_false];simp only[h,if_false,decide_false];simp(config:={ decide:=true }) only[Dm.fn,Dm.aO,Dm.sA,Dm.sR,Dm.sE,Dm.sU,Dm.sIf,Dm.sNx,Dm.dF,Dm.dc,Dm.e1,Dm.e2,Dm.eB,Dm.eAs,Dm.eC,Dm.eV,Dm.bJ,Dm.bS,Dm.eF,Dm.eIf,Dm.dI,Dm.eOr,Dm.eW,Dm.tV,Dm.bM,Dm.dB,Dm.tOr,Dm.bD,Dm.pk,Dm.tk,Dm.pks,Dm.tks,RV.bI,RV.dat,Dm.bW,Dm.bh,Dm.dG,Dm.cH,Dm.cK,Dm.bu,Dm.cX,Dm.gLt,Dm.gLe,Dm.gGt,Dm.eu,Dm.bX,Dm.ck,Dm.b4,Dm.cu,Dm.cG,Dm.cA,Dm.bE,Dm.gk,Dm.isI,Dm.isB,Dm.isL,Dm.isT,Dm.vB,Dm.vI,Uc,UP,Ub,Us,Uk,Ur,fj,Ua,PU,Uq,Ul,Uo,US,if_true,if_false,UL,Dm.iR1,Dm.iR2,Dm.iS,Dm.bN,Dm.bT,Dm.sets,reduceIte,UA,Dm.bH,Uv,Uw,Up,Ux,true_or,or_true,true_and,and_true,decide_true,decide_false,false_or,or_false,false_and,and_false];rw[RS];simp(config:={ decide:=true }) only[Dm.fn,Dm.aO,Dm.sA,Dm.sR,Dm.sE,Dm.sU,Dm.sIf,Dm.sNx,Dm.dF,Dm.dc,Dm.e1,Dm.e2,Dm.eB,Dm.eAs,Dm.eC,Dm.eV,Dm.bJ,Dm.bS,Dm.eF,Dm.eIf,Dm.dI,Dm.eOr,Dm.eW,Dm.tV,Dm.bM,Dm.dB,Dm.tOr,Dm.bD,Dm.pk,Dm.tk,Dm.pks,Dm.tks,RV.bI,RV.dat,Dm.bW,Dm.bh,Dm.dG,Dm.cH,Dm.cK,Dm.bu,Dm.cX,Dm.gLt,Dm.gLe,Dm.gGt,Dm.eu,Dm.bX,Dm.ck,Dm.b4,Dm.cu,Dm.cG,Dm.cA,Dm.bE,Dm.gk,Dm.isI,Dm.isB,Dm.isL,Dm.isT,Dm.vB,Dm.vI,Uc,UP,Ub,Us,Uk,Ur,fj,Ua,PU,Uq,Ul,Uo,US,if_true,if_false,UL,Dm.iR1,Dm.iR2,Dm.iS,Dm.bN,Dm.bT,Dm.sets,reduceIte,UA,Dm.bH,Uv,Uw,Up,Ux,true_or,or_true,true_and,and_true,decide_true,decide_false,false_or,or_false,false_and,and_false];simp only[hl,if_true]
theorem Fe(cell many:Int):∀(n:Nat) (k left:Int) (Mc:List Dat) (c5 c6 c7:Cell),Mc.length+n<=SZ ->
  ∃left' c5' c6' c7',kD (bN 5) Be (ups k n) [.sh (.int cell),.sh (.int many),.sh (.int Z30),.ow (.lst Mc),.sh (.int left),c5,c6,c7] =
   some (.nx [.sh (.int cell),.sh (.int many),.sh (.int Z30),.ow (.lst (Mc++(nums cell n k left).map Dat.int)),.sh (.int left'),c5',c6',c7'])
 |0,k,left,Mc,c5,c6,c7,h=>⟨left,c5,c6,c7,by rw[Cw,kD];simp[nums]⟩
 |n+1,k,left,Mc,c5,c6,c7,h=>by
  rw[t8,kD];have hb:bN 5 (.int k) [.sh (.int cell),.sh (.int many),.sh (.int Z30),.ow (.lst Mc),.sh (.int left),c5,c6,c7]=some [.sh (.int cell),.sh (.int many),.sh (.int Z30),.ow (.lst Mc),.sh (.int left),.sh (.int k),c6,c7]:=rfl;rw[hb];dsimp only;obtain⟨d6,d7,e⟩:=Mg cell many left k Mc c5 c6 c7 (by lia);rw[e];dsimp only;obtain⟨l',a5,a6,a7,e2⟩:=Fe cell many n (k+1) (if 0<left then left / Z30 else left) (Mc++[.int (if 0<left then left % Z30 else draw cell k % Z30)]) (.sh (.int k)) d6 d7 (by simp;lia);refine⟨l',a5,a6,a7,?_⟩;rw[e2];have:Mc++(nums cell (n+1) k left).map Dat.int=Mc++[.int (if 0<left then left % Z30 else draw cell k % Z30)]++(nums cell n (k+1) (if 0<left then left / Z30 else left)).map Dat.int:=by
   conv=>lhs;unfold nums
   by_cases h0:0<left
   ·simp[h0]
   ·simp[h0]
  rw[this]
noncomputable def numsOf(cell:Int)(n:Nat):List Int:=nums cell n 0 (cell-1000000000000000000)
theorem DQ(cell:Int)(n:Nat)(hn:n<=1000):Cu [.int cell,.int n,.int Z30]=some (.new (.lst ((numsOf cell n).map Dat.int))):=by
 unfold Cu;obtain⟨l',a5,a6,a7,e⟩:=Fe cell n n 0 (cell-1000000000000000000) [] .un .un .un (by simp[SZ];lia);have p18:(10:Int) ^ (18:Int).toNat=1000000000000000000:=by decide
 have hb:((n:Int)<=BIG/\-BIG<=(n:Int))=True:=by simp only[eq_iff_iff,iff_true];unfold BIG;lia
 have hs:(0<=SZ)=True:=by simp
 simp(config:={ decide:=true }) only[Dm.fn,Dm.aO,Dm.sA,Dm.sR,Dm.sE,Dm.sU,Dm.sIf,Dm.sNx,Dm.dF,Dm.dc,Dm.e1,Dm.e2,Dm.eB,Dm.eAs,Dm.eC,Dm.eV,Dm.bJ,Dm.bS,Dm.eF,Dm.eIf,Dm.dI,Dm.eOr,Dm.eW,Dm.tV,Dm.bM,Dm.dB,Dm.tOr,Dm.bD,Dm.pk,Dm.tk,Dm.pks,Dm.tks,RV.bI,RV.dat,Dm.bW,Dm.bh,Dm.dG,Dm.cH,Dm.cK,Dm.bu,Dm.cX,Dm.gLt,Dm.gLe,Dm.gGt,Dm.eu,Dm.bX,Dm.ck,Dm.b4,Dm.cu,Dm.cG,Dm.cA,Dm.bE,Dm.gk,Dm.isI,Dm.isB,Dm.isL,Dm.isT,Dm.vB,Dm.vI,Uc,UP,Ub,Us,Uk,Ur,fj,Ua,PU,Uq,Ul,Uo,US,if_true,if_false,UL,Dm.iR1,Dm.iR2,Dm.iS,Dm.bN,Dm.bT,Dm.sets,reduceIte,UA,Dm.bH,Uv,Uw,Up,Ux,true_or,or_true,true_and,and_true,decide_true,decide_false,false_or,or_false,false_and,and_false];simp only[p18,hb,hs,if_true,W8];rw[Uk]at e;unfold numsOf;rw[e];simp(config:={ decide:=true }) only[Dm.fn,Dm.aO,Dm.sA,Dm.sR,Dm.sE,Dm.sU,Dm.sIf,Dm.sNx,Dm.dF,Dm.dc,Dm.e1,Dm.e2,Dm.eB,Dm.eAs,Dm.eC,Dm.eV,Dm.bJ,Dm.bS,Dm.eF,Dm.eIf,Dm.dI,Dm.eOr,Dm.eW,Dm.tV,Dm.bM,Dm.dB,Dm.tOr,Dm.bD,Dm.pk,Dm.tk,Dm.pks,Dm.tks,RV.bI,RV.dat,Dm.bW,Dm.bh,Dm.dG,Dm.cH,Dm.cK,Dm.bu,Dm.cX,Dm.gLt,Dm.gLe,Dm.gGt,Dm.eu,Dm.bX,Dm.ck,Dm.b4,Dm.cu,Dm.cG,Dm.cA,Dm.bE,Dm.gk,Dm.isI,Dm.isB,Dm.isL,Dm.isT,Dm.vB,Dm.vI,Uc,UP,Ub,Us,Uk,Ur,fj,Ua,PU,Uq,Ul,Uo,US,if_true,if_false,UL,Dm.iR1,Dm.iR2,Dm.iS,Dm.bN,Dm.bT,Dm.sets,reduceIte,UA,Dm.bH,Uv,Uw,Up,Ux,true_or,or_true,true_and,and_true,decide_true,decide_false,false_or,or_false,false_and,and_false]
structure Tie where
 m:Int
 a:Int
 b:Int
noncomputable def eU(t:Tie):Dat:=.tup [.int t.m,.int t.a,.int t.b]
noncomputable def bC(r:List Tie):Dat:=.lst (r.map eU)
theorem eq_int(i j:Int):gEq (.int i) (.int j)=vB (decide (i=j)):=by
 have:(i == j)=decide (i=j):=by by_cases h:i=j<;>simp[h]
 show vB (i == j)=_;rw[this]
theorem cW(x n:Int)(h:1<=n):0<=x % n/\x % n<n:=⟨VQ x (by lia),VZ x (by lia)⟩
theorem RU(n:Int)(hn:1<=n)(hn2:n<=10)(kind one other:Int):∃a b,E9 [.int n,.int kind,.int one,.int other]=some (.val (.tup [.int a,.int b]))/\0<=a/\a<n/\0<=b/\b<n:=by
 have h0:(0<n)=True:=by simp only[eq_iff_iff,iff_true];lia
 have z2:(2<=SZ)=True:=by simp[SZ]
 have m1:∀x:Int,0<=x % n/\x % n<n:=fun x=>cW x n hn;unfold E9;by_cases k0:kind=0
 ·refine⟨one % n,other % n,?_,(m1 _).1,(m1 _).2,(m1 _).1,(m1 _).2⟩;subst k0;simp(config:={ decide:=true }) only[h0,z2,eq_int,Dm.fn,Dm.aO,Dm.sA,Dm.sR,Dm.sE,Dm.sU,Dm.sIf,Dm.sNx,Dm.dF,Dm.dc,Dm.e1,Dm.e2,Dm.eB,Dm.eAs,Dm.eC,Dm.eV,Dm.bJ,Dm.bS,Dm.eF,Dm.eIf,Dm.dI,Dm.eOr,Dm.eW,Dm.tV,Dm.bM,Dm.dB,Dm.tOr,Dm.bD,Dm.pk,Dm.tk,Dm.pks,Dm.tks,RV.bI,RV.dat,Dm.bW,Dm.bh,Dm.dG,Dm.cH,Dm.cK,Dm.bu,Dm.cX,Dm.gLt,Dm.gLe,Dm.gGt,Dm.eu,Dm.bX,Dm.ck,Dm.b4,Dm.cu,Dm.cG,Dm.cA,Dm.bE,Dm.gk,Dm.isI,Dm.isB,Dm.isL,Dm.isT,Dm.vB,Dm.vI,Uc,UP,Ub,Us,Uk,Ur,fj,Ua,PU,Uq,Ul,Uo,US,if_true,if_false,UL,Dm.iR1,Dm.iR2,Dm.iS,Dm.bN,Dm.bT,Dm.sets,reduceIte,UA,Dm.bH,Uv,Uw,Up,Ux,true_or,or_true,true_and,and_true,decide_true,decide_false,false_or,or_false,false_and,and_false]
 ·have e0:(kind=0)=False:=by simp[k0]
  by_cases k1:kind=1
  ·subst k1;have p3:(0<if 3<n then 3 else n)=True:=by simp only[eq_iff_iff,iff_true];split<;>lia
   have p2:(0<if 2<n then 2 else n)=True:=by simp only[eq_iff_iff,iff_true];split<;>lia
   have b3:=cW one (if 3<n then 3 else n) (by split<;>lia);have b2:=cW other (if 2<n then 2 else n) (by split<;>lia);refine⟨one % (if 3<n then 3 else n),other % (if 2<n then 2 else n),?_,b3.1,?_,b2.1,?_⟩
   ·simp(config:={ decide:=true }) only[h0,z2,eq_int,p3,p2,Dm.fn,Dm.aO,Dm.sA,Dm.sR,Dm.sE,Dm.sU,Dm.sIf,Dm.sNx,Dm.dF,Dm.dc,Dm.e1,Dm.e2,Dm.eB,Dm.eAs,Dm.eC,Dm.eV,Dm.bJ,Dm.bS,Dm.eF,Dm.eIf,Dm.dI,Dm.eOr,Dm.eW,Dm.tV,Dm.bM,Dm.dB,Dm.tOr,Dm.bD,Dm.pk,Dm.tk,Dm.pks,Dm.tks,RV.bI,RV.dat,Dm.bW,Dm.bh,Dm.dG,Dm.cH,Dm.cK,Dm.bu,Dm.cX,Dm.gLt,Dm.gLe,Dm.gGt,Dm.eu,Dm.bX,Dm.ck,Dm.b4,Dm.cu,Dm.cG,Dm.cA,Dm.bE,Dm.gk,Dm.isI,Dm.isB,Dm.isL,Dm.isT,Dm.vB,Dm.vI,Uc,UP,Ub,Us,Uk,Ur,fj,Ua,PU,Uq,Ul,Uo,US,if_true,if_false,UL,Dm.iR1,Dm.iR2,Dm.iS,Dm.bN,Dm.bT,Dm.sets,reduceIte,UA,Dm.bH,Uv,Uw,Up,Ux,true_or,or_true,true_and,and_true,decide_true,decide_false,false_or,or_false,false_and,and_false]
   ·have:=b3.2;split at this<;>lia
   ·have:=b2.2;split at this<;>lia
  ·have e1:(kind=1)=False:=by simp[k1]
   by_cases k2:kind=2
   ·subst k2;refine⟨one % n,(one % n+1+other % 5 / 4) % n,?_,(m1 _).1,(m1 _).2,(m1 _).1,(m1 _).2⟩;have c:(0<(4:Int)/\(4:Int)<mF)=True:=by simp[mF]
    simp(config:={ decide:=true }) only[h0,z2,eq_int,c,Dm.fn,Dm.aO,Dm.sA,Dm.sR,Dm.sE,Dm.sU,Dm.sIf,Dm.sNx,Dm.dF,Dm.dc,Dm.e1,Dm.e2,Dm.eB,Dm.eAs,Dm.eC,Dm.eV,Dm.bJ,Dm.bS,Dm.eF,Dm.eIf,Dm.dI,Dm.eOr,Dm.eW,Dm.tV,Dm.bM,Dm.dB,Dm.tOr,Dm.bD,Dm.pk,Dm.tk,Dm.pks,Dm.tks,RV.bI,RV.dat,Dm.bW,Dm.bh,Dm.dG,Dm.cH,Dm.cK,Dm.bu,Dm.cX,Dm.gLt,Dm.gLe,Dm.gGt,Dm.eu,Dm.bX,Dm.ck,Dm.b4,Dm.cu,Dm.cG,Dm.cA,Dm.bE,Dm.gk,Dm.isI,Dm.isB,Dm.isL,Dm.isT,Dm.vB,Dm.vI,Uc,UP,Ub,Us,Uk,Ur,fj,Ua,PU,Uq,Ul,Uo,US,if_true,if_false,UL,Dm.iR1,Dm.iR2,Dm.iS,Dm.bN,Dm.bT,Dm.sets,reduceIte,UA,Dm.bH,Uv,Uw,Up,Ux,true_or,or_true,true_and,and_true,decide_true,decide_false,false_or,or_false,false_and,and_false]
   ·have e2:(kind=2)=False:=by simp[k2]
    refine⟨one % n,(one % n+2*(other % n)) % n,?_,(m1 _).1,(m1 _).2,(m1 _).1,(m1 _).2⟩;simp(config:={ decide:=true }) only[h0,z2,eq_int,e0,e1,e2,Dm.fn,Dm.aO,Dm.sA,Dm.sR,Dm.sE,Dm.sU,Dm.sIf,Dm.sNx,Dm.dF,Dm.dc,Dm.e1,Dm.e2,Dm.eB,Dm.eAs,Dm.eC,Dm.eV,Dm.bJ,Dm.bS,Dm.eF,Dm.eIf,Dm.dI,Dm.eOr,Dm.eW,Dm.tV,Dm.bM,Dm.dB,Dm.tOr,Dm.bD,Dm.pk,Dm.tk,Dm.pks,Dm.tks,RV.bI,RV.dat,Dm.bW,Dm.bh,Dm.dG,Dm.cH,Dm.cK,Dm.bu,Dm.cX,Dm.gLt,Dm.gLe,Dm.gGt,Dm.eu,Dm.bX,Dm.ck,Dm.b4,Dm.cu,Dm.cG,Dm.cA,Dm.bE,Dm.gk,Dm.isI,Dm.isB,Dm.isL,Dm.isT,Dm.vB,Dm.vI,Uc,UP,Ub,Us,Uk,Ur,fj,Ua,PU,Uq,Ul,Uo,US,if_true,if_false,UL,Dm.iR1,Dm.iR2,Dm.iS,Dm.bN,Dm.bT,Dm.sets,reduceIte,UA,Dm.bH,Uv,Uw,Up,Ux,true_or,or_true,true_and,and_true,decide_true,decide_false,false_or,or_false,false_and,and_false]
noncomputable def at'(ns:List Int)(i:Int):Int:=ns.getD i.toNat 0
theorem Bb(ns:List Int)(i:Int)(h0:0<=i)(h1:i<ns.length):atI (ns.map Dat.int) i=some (.int (at' ns i)):=by
 unfold atI ixN at';rw[if_pos h0,if_pos (by simpa using h1)];have hi:i.toNat<ns.length:=by lia
 show (ns.map Dat.int)[i.toNat]?=_;rw[UX,Uz hi,Vq,Uz hi];rfl
theorem mV(ns:List Int)(i:Int)(h0:0<=i)(h1:i<ns.length):gIx (.lst (ns.map Dat.int)) (.int i)=some (.val (.int (at' ns i))):=by show (atI (ns.map Dat.int) i).map RV.val=_;rw[Bb ns i h0 h1];rfl
def Good(n:Int):Int->List Tie->Prop
 |_,[]=>True
 |lo,t::r=>lo<=t.m/\0<=t.a/\t.a<=t.b/\t.b<n/\Good n (t.m+1) r
noncomputable abbrev Z28:Int:=10000000000000000000000000000
theorem Mh(ns:List Int)(n many wide dh most k:Int)(Mc:List Tie)(c8 c9:Cell)(hn:1<=n)(hn2:n<=10)(hw:1<=wide)(hw2:wide<=Z28)(hk:0<=k)(hk2:6+3*k<ns.length)(hl:Mc.length<1000) :
  ∃(t:Tie) (t9:Int) (c8' c9':Cell),Bf [.sh (.lst (ns.map Dat.int)),.sh (.int most),.sh (.int n),.sh (.int many),.sh (.int wide),.sh (.int dh),.ow (bC Mc),.sh (.int k),c8,c9] =
   some (.nx [.sh (.lst (ns.map Dat.int)),.sh (.int most),.sh (.int n),.sh (.int many),.sh (.int wide),.sh (.int t9),.ow (bC (Mc++[t])),.sh (.int k),c8',c9']) /\
   t.m=dh/\0<=t.a/\t.a<=t.b/\t.b<n/\dh+1<=t9/\t9<=dh+Z28:=by
 obtain⟨a,b,e,a0,a1,b0,b1⟩:=RU n hn hn2 (at' ns 3 % 4) (at' ns (4+3*k)) (at' ns (5+3*k));have i3:=mV ns 3 (by decide) (by lia);have i4:=mV ns (4+3*k) (by lia) (by lia);have i5:=mV ns (5+3*k) (by lia) (by lia);have i6:=mV ns (6+3*k) (by lia) (by lia);have mw:=cW (at' ns (6+3*k)) wide hw;have w0:(0<wide)=True:=by simp only[eq_iff_iff,iff_true];lia
 have z3:(3<=SZ)=True:=by simp[SZ]
 have za:((Mc.map eU).length<SZ)=True:=by simp only[eq_iff_iff,iff_true,Ud];unfold SZ;lia
 refine⟨⟨dh,if b<a then b else a,if b>a then b else a⟩,dh+1+at' ns (6+3*k) % wide,.sh (.int a),.sh (.int b),?_,rfl,?_,?_,?_,by lia,by lia⟩
 ·unfold Bf bC;simp(config:={ decide:=true }) only[i3,i4,i5,i6,e,w0,z3,za,Dm.fn,Dm.aO,Dm.sA,Dm.sR,Dm.sE,Dm.sU,Dm.sIf,Dm.sNx,Dm.dF,Dm.dc,Dm.e1,Dm.e2,Dm.eB,Dm.eAs,Dm.eC,Dm.eV,Dm.bJ,Dm.bS,Dm.eF,Dm.eIf,Dm.dI,Dm.eOr,Dm.eW,Dm.tV,Dm.bM,Dm.dB,Dm.tOr,Dm.bD,Dm.pk,Dm.tk,Dm.pks,Dm.tks,RV.bI,RV.dat,Dm.bW,Dm.bh,Dm.dG,Dm.cH,Dm.cK,Dm.bu,Dm.cX,Dm.gLt,Dm.gLe,Dm.gGt,Dm.eu,Dm.bX,Dm.ck,Dm.b4,Dm.cu,Dm.cG,Dm.cA,Dm.bE,Dm.gk,Dm.isI,Dm.isB,Dm.isL,Dm.isT,Dm.vB,Dm.vI,Uc,UP,Ub,Us,Uk,Ur,fj,Ua,PU,Uq,Ul,Uo,US,if_true,if_false,UL,Dm.iR1,Dm.iR2,Dm.iS,Dm.bN,Dm.bT,Dm.sets,reduceIte,UA,Dm.bH,Uv,Uw,Up,Ux,true_or,or_true,true_and,and_true,decide_true,decide_false,false_or,or_false,false_and,and_false];simp[eU]
 ·dsimp only;split<;>lia
 ·dsimp only;split<;>split<;>lia
 ·dsimp only;split<;>lia
theorem Ff(ns:List Int)(n many wide most:Int)(hn:1<=n)(hn2:n<=10)(hw:1<=wide)(hw2:wide<=Z28):∀(ZJ:Nat) (k dh:Int) (Mc:List Tie) (c7 c8 c9:Cell),0<=k->3+3*(k+ZJ)<ns.length->Mc.length+ZJ<1000 ->
  ∃(r:List Tie) (t9:Int) (c7' c8' c9':Cell),kD (bN 7) Bf (ups k ZJ) [.sh (.lst (ns.map Dat.int)),.sh (.int most),.sh (.int n),.sh (.int many),.sh (.int wide),.sh (.int dh),.ow (bC Mc),c7,c8,c9] =
   some (.nx [.sh (.lst (ns.map Dat.int)),.sh (.int most),.sh (.int n),.sh (.int many),.sh (.int wide),.sh (.int t9),.ow (bC (Mc++r)),c7',c8',c9'])/\r.length=ZJ/\Good n dh r/\∀t∈r,t.m<=dh+ZJ*Z28
 |0,k,dh,Mc,c7,c8,c9,hk,hl,ha=>⟨[],dh,c7,c8,c9,by rw[Cw,kD,U3],rfl,trivial,fun t ht=>by cases ht⟩
 |ZJ+1,k,dh,Mc,c7,c8,c9,hk,hl,ha=>by
  rw[t8,kD];have hb:bN 7 (.int k) [.sh (.lst (ns.map Dat.int)),.sh (.int most),.sh (.int n),.sh (.int many),.sh (.int wide),.sh (.int dh),.ow (bC Mc),c7,c8,c9]=some [.sh (.lst (ns.map Dat.int)),.sh (.int most),.sh (.int n),.sh (.int many),.sh (.int wide),.sh (.int dh),.ow (bC Mc),.sh (.int k),c8,c9]:=rfl;rw[hb];dsimp only;obtain⟨t,m1,d8,d9,e,tm,ta,tab,tb,l1,l2⟩:=Mh ns n many wide dh most k Mc c8 c9 hn hn2 hw hw2 hk (by lia) (by lia);rw[e];dsimp only;obtain⟨r,m2,f7,f8,f9,e2,rl,rg,ru⟩:=Ff ns n many wide most hn hn2 hw hw2 ZJ (k+1) m1 (Mc++[t]) (.sh (.int k)) d8 d9 (by lia) (by lia) (by simp;lia);refine⟨t::r,m2,f7,f8,f9,by rw[e2,VC];rfl,by simp[rl],⟨by lia,ta,tab,tb,?_⟩,fun u hu=>?_⟩
  ·have mono:∀(r:List Tie) (a b:Int),a<=b->Good n b r->Good n a r:=fun r a b h g=>by
    cases r with
    |nil=>trivial
    |cons x y=>exact⟨Int.le_trans h g.1,g.2⟩
   exact mono r _ _ (by lia) rg
  ·rcases Ui.mp hu with rfl | hu
   ·have:(0:Int)<=(ZJ+1:Nat)*Z28:=by
     have:(0:Int)<=((ZJ+1:Nat):Int):=by lia
     unfold Z28;lia
    lia
   ·have:=ru u hu;have e3:((ZJ+1:Nat):Int)*Z28=ZJ*Z28+Z28:=by unfold Z28;lia
    lia
theorem ix3(a b c:Dat)(x:Int)(h0:0<=x)(h:x<3):gIx (.lst [a,b,c]) (.int x)=some (.val (if x=0 then a else if x=1 then b else c)):=by
 have:x=0\/x=1\/x=2:=by lia
 rcases this with rfl | rfl | rfl<;>rfl
theorem stA(ns:List Int)(most:Int)(hl:10<=ns.length):∃n:Int,1<=n/\n<=10/\∀L8:FS,
  aO (sA 2 (e2 bh (eC (.int 1)) (e2 bu (e2 gIx (eV 0) (eC (.int 0))) (eC (.int 6)))))
  (aO (sIf (tV (e2 gEq (e2 bu (e2 cK (e2 gIx (eV 0) (eC (.int 0))) (eC (.int 6))) (eC (.int 8))) (eC (.int 1)))) (sA 2 (e2 bh (eC (.int 7)) (e2 bu (e2 cK (e2 gIx (eV 0) (eC (.int 0))) (eC (.int 48))) (eC (.int 4))))) sNx) L8)
   [.sh (.lst (ns.map Dat.int)),.sh (.int most),.un,.un,.un,.un,.un,.un,.un,.un]=L8 [.sh (.lst (ns.map Dat.int)),.sh (.int most),.sh (.int n),.un,.un,.un,.un,.un,.un,.un]:=by
 have i0:=mV ns 0 (by decide) (by lia);have m6:=cW (at' ns 0) 6 (by decide);have m4:=cW (at' ns 0 / 48) 4 (by decide);have c6:(0<(6:Int)/\(6:Int)<mF)=True:=by simp[mF]
 have c48:(0<(48:Int)/\(48:Int)<mF)=True:=by simp[mF]
 by_cases c:at' ns 0 / 6 % 8=1
 ·refine⟨7+at' ns 0 / 48 % 4,by lia,by lia,fun L8=>?_⟩;have c':(at' ns 0 / 6 % 8=1)=True:=by simp[c]
  simp(config:={ decide:=true }) only[i0,c6,c48,eq_int,c',Dm.fn,Dm.aO,Dm.sA,Dm.sR,Dm.sE,Dm.sU,Dm.sIf,Dm.sNx,Dm.dF,Dm.dc,Dm.e1,Dm.e2,Dm.eB,Dm.eAs,Dm.eC,Dm.eV,Dm.bJ,Dm.bS,Dm.eF,Dm.eIf,Dm.dI,Dm.eOr,Dm.eW,Dm.tV,Dm.bM,Dm.dB,Dm.tOr,Dm.bD,Dm.pk,Dm.tk,Dm.pks,Dm.tks,RV.bI,RV.dat,Dm.bW,Dm.bh,Dm.dG,Dm.cH,Dm.cK,Dm.bu,Dm.cX,Dm.gLt,Dm.gLe,Dm.gGt,Dm.eu,Dm.bX,Dm.ck,Dm.b4,Dm.cu,Dm.cG,Dm.cA,Dm.bE,Dm.gk,Dm.isI,Dm.isB,Dm.isL,Dm.isT,Dm.vB,Dm.vI,Uc,UP,Ub,Us,Uk,Ur,fj,Ua,PU,Uq,Ul,Uo,US,if_true,if_false,UL,Dm.iR1,Dm.iR2,Dm.iS,Dm.bN,Dm.bT,Dm.sets,reduceIte,UA,Dm.bH,Uv,Uw,Up,Ux,true_or,or_true,true_and,and_true,decide_true,decide_false,false_or,or_false,false_and,and_false]
 ·refine⟨1+at' ns 0 % 6,by lia,by lia,fun L8=>?_⟩;have c':(at' ns 0 / 6 % 8=1)=False:=by simp[c]
  simp(config:={ decide:=true }) only[i0,c6,c48,eq_int,c',Dm.fn,Dm.aO,Dm.sA,Dm.sR,Dm.sE,Dm.sU,Dm.sIf,Dm.sNx,Dm.dF,Dm.dc,Dm.e1,Dm.e2,Dm.eB,Dm.eAs,Dm.eC,Dm.eV,Dm.bJ,Dm.bS,Dm.eF,Dm.eIf,Dm.dI,Dm.eOr,Dm.eW,Dm.tV,Dm.bM,Dm.dB,Dm.tOr,Dm.bD,Dm.pk,Dm.tk,Dm.pks,Dm.tks,RV.bI,RV.dat,Dm.bW,Dm.bh,Dm.dG,Dm.cH,Dm.cK,Dm.bu,Dm.cX,Dm.gLt,Dm.gLe,Dm.gGt,Dm.eu,Dm.bX,Dm.ck,Dm.b4,Dm.cu,Dm.cG,Dm.cA,Dm.bE,Dm.gk,Dm.isI,Dm.isB,Dm.isL,Dm.isT,Dm.vB,Dm.vI,Uc,UP,Ub,Us,Uk,Ur,fj,Ua,PU,Uq,Ul,Uo,US,if_true,if_false,UL,Dm.iR1,Dm.iR2,Dm.iS,Dm.bN,Dm.bT,Dm.sets,reduceIte,UA,Dm.bH,Uv,Uw,Up,Ux,true_or,or_true,true_and,and_true,decide_true,decide_false,false_or,or_false,false_and,and_false]
theorem stB(ns:List Int)(most n:Int)(hl:10<=ns.length):∃many:Int,0<=many/\many<=60/\∀L8:FS,
  aO (sA 3 (e2 bu (e2 gIx (eV 0) (eC (.int 1))) (eC (.int 13))))
  (aO (sIf (tV (e2 gEq (e2 bu (e2 cK (e2 gIx (eV 0) (eC (.int 1))) (eC (.int 13))) (eC (.int 8))) (eC (.int 1)))) (sA 3 (e2 bh (eC (.int 13)) (e2 bu (e2 cK (e2 gIx (eV 0) (eC (.int 1))) (eC (.int 104))) (eC (.int 48))))) sNx) L8)
   [.sh (.lst (ns.map Dat.int)),.sh (.int most),.sh (.int n),.un,.un,.un,.un,.un,.un,.un]=L8 [.sh (.lst (ns.map Dat.int)),.sh (.int most),.sh (.int n),.sh (.int many),.un,.un,.un,.un,.un,.un]:=by
 have i0:=mV ns 1 (by decide) (by lia);have m6:=cW (at' ns 1) 13 (by decide);have m4:=cW (at' ns 1 / 104) 48 (by decide);have c6:(0<(13:Int)/\(13:Int)<mF)=True:=by simp[mF]
 have c48:(0<(104:Int)/\(104:Int)<mF)=True:=by simp[mF]
 by_cases c:at' ns 1 / 13 % 8=1
 ·refine⟨13+at' ns 1 / 104 % 48,by lia,by lia,fun L8=>?_⟩;have c':(at' ns 1 / 13 % 8=1)=True:=by simp[c]
  simp(config:={ decide:=true }) only[i0,c6,c48,eq_int,c',Dm.fn,Dm.aO,Dm.sA,Dm.sR,Dm.sE,Dm.sU,Dm.sIf,Dm.sNx,Dm.dF,Dm.dc,Dm.e1,Dm.e2,Dm.eB,Dm.eAs,Dm.eC,Dm.eV,Dm.bJ,Dm.bS,Dm.eF,Dm.eIf,Dm.dI,Dm.eOr,Dm.eW,Dm.tV,Dm.bM,Dm.dB,Dm.tOr,Dm.bD,Dm.pk,Dm.tk,Dm.pks,Dm.tks,RV.bI,RV.dat,Dm.bW,Dm.bh,Dm.dG,Dm.cH,Dm.cK,Dm.bu,Dm.cX,Dm.gLt,Dm.gLe,Dm.gGt,Dm.eu,Dm.bX,Dm.ck,Dm.b4,Dm.cu,Dm.cG,Dm.cA,Dm.bE,Dm.gk,Dm.isI,Dm.isB,Dm.isL,Dm.isT,Dm.vB,Dm.vI,Uc,UP,Ub,Us,Uk,Ur,fj,Ua,PU,Uq,Ul,Uo,US,if_true,if_false,UL,Dm.iR1,Dm.iR2,Dm.iS,Dm.bN,Dm.bT,Dm.sets,reduceIte,UA,Dm.bH,Uv,Uw,Up,Ux,true_or,or_true,true_and,and_true,decide_true,decide_false,false_or,or_false,false_and,and_false]
 ·refine⟨at' ns 1 % 13,by lia,by lia,fun L8=>?_⟩;have c':(at' ns 1 / 13 % 8=1)=False:=by simp[c]
  simp(config:={ decide:=true }) only[i0,c6,c48,eq_int,c',Dm.fn,Dm.aO,Dm.sA,Dm.sR,Dm.sE,Dm.sU,Dm.sIf,Dm.sNx,Dm.dF,Dm.dc,Dm.e1,Dm.e2,Dm.eB,Dm.eAs,Dm.eC,Dm.eV,Dm.bJ,Dm.bS,Dm.eF,Dm.eIf,Dm.dI,Dm.eOr,Dm.eW,Dm.tV,Dm.bM,Dm.dB,Dm.tOr,Dm.bD,Dm.pk,Dm.tk,Dm.pks,Dm.tks,RV.bI,RV.dat,Dm.bW,Dm.bh,Dm.dG,Dm.cH,Dm.cK,Dm.bu,Dm.cX,Dm.gLt,Dm.gLe,Dm.gGt,Dm.eu,Dm.bX,Dm.ck,Dm.b4,Dm.cu,Dm.cG,Dm.cA,Dm.bE,Dm.gk,Dm.isI,Dm.isB,Dm.isL,Dm.isT,Dm.vB,Dm.vI,Uc,UP,Ub,Us,Uk,Ur,fj,Ua,PU,Uq,Ul,Uo,US,if_true,if_false,UL,Dm.iR1,Dm.iR2,Dm.iS,Dm.bN,Dm.bT,Dm.sets,reduceIte,UA,Dm.bH,Uv,Uw,Up,Ux,true_or,or_true,true_and,and_true,decide_true,decide_false,false_or,or_false,false_and,and_false]
theorem stC(ns:List Int)(most n many:Int)(hl:10<=ns.length):∃wide dh:Int,1<=wide/\wide<=Z28/\0<=dh/\dh<=100000000000000000000000000000/\∀L8:FS,
  aO (sA 4 (e2 gIx (bS [(eC (.int 1)),(eC (.int 4)),(e2 cX (eC (.int 10)) (eC (.int 28)))]) (e2 bu (e2 gIx (eV 0) (eC (.int 2))) (eC (.int 3)))))
  (aO (sA 5 (e2 gIx (bS [(eC (.int 0)),(e2 bu (e2 cK (e2 gIx (eV 0) (eC (.int 2))) (eC (.int 12))) (eC (.int 100))),(e2 bu (e2 gIx (eV 0) (eC (.int 3))) (e2 cX (eC (.int 10)) (eC (.int 29))))]) (e2 bu (e2 cK (e2 gIx (eV 0) (eC (.int 2))) (eC (.int 3))) (eC (.int 3)))))
  (aO (sA 6 (bS [])) L8))
   [.sh (.lst (ns.map Dat.int)),.sh (.int most),.sh (.int n),.sh (.int many),.un,.un,.un,.un,.un,.un]=L8 [.sh (.lst (ns.map Dat.int)),.sh (.int most),.sh (.int n),.sh (.int many),.sh (.int wide),.sh (.int dh),.ow (bC []),.un,.un,.un]:=by
 have i2:=mV ns 2 (by decide) (by lia);have i3:=mV ns 3 (by decide) (by lia);have q1:=cW (at' ns 2) 3 (by decide);have q2:=cW (at' ns 2 / 3) 3 (by decide);have q3:=cW (at' ns 2 / 12) 100 (by decide);have q4:=cW (at' ns 3) 100000000000000000000000000000 (by decide);have c12:(0<(12:Int)/\(12:Int)<mF)=True:=by simp[mF]
 have c3:(0<(3:Int)/\(3:Int)<mF)=True:=by simp[mF]
 have p28:(10:Int) ^ (28:Int).toNat=Z28:=by decide
 have p29:(10:Int) ^ (29:Int).toNat=100000000000000000000000000000:=by decide
 have z3:(3<=SZ)=True:=by simp[SZ]
 have z0:(0<=SZ)=True:=by simp
 have p0:(0<(100000000000000000000000000000:Int))=True:=by simp
 have w:∃wide:Int,(1<=wide/\wide<=Z28)/\(if at' ns 2 % 3=0 then Dat.int 1 else if at' ns 2 % 3=1 then Dat.int 4 else Dat.int Z28)=.int wide:=by
  split
  ·exact⟨1,by decide,rfl⟩
  ·split
   ·exact⟨4,by decide,rfl⟩
   ·exact⟨Z28,by decide,rfl⟩
 have m:∃mo:Int,(0<=mo/\mo<=100000000000000000000000000000)/\(if at' ns 2 / 3 % 3=0 then Dat.int 0 else if at' ns 2 / 3 % 3=1 then Dat.int (at' ns 2 / 12 % 100) else Dat.int (at' ns 3 % 100000000000000000000000000000))=.int mo:=by
  split
  ·exact⟨0,by decide,rfl⟩
  ·split
   ·exact⟨_,⟨q3.1,by lia⟩,rfl⟩
   ·exact⟨_,⟨q4.1,by lia⟩,rfl⟩
 obtain⟨wide,hw,ew⟩:=w;obtain⟨mo,hm,em⟩:=m;refine⟨wide,mo,hw.1,hw.2,hm.1,hm.2,fun L8=>?_⟩;have g1:=ix3 (.int 1) (.int 4) (.int Z28) (at' ns 2 % 3) q1.1 q1.2;have g2:=ix3 (.int 0) (.int (at' ns 2 / 12 % 100)) (.int (at' ns 3 % 100000000000000000000000000000)) (at' ns 2 / 3 % 3) q2.1 q2.2;rw[ew]at g1;rw[em]at g2;unfold bC;simp(config:={ decide:=true }) only[i2,i3,c12,c3,p28,p29,z3,z0,p0,g1,g2,Dm.fn,Dm.aO,Dm.sA,Dm.sR,Dm.sE,Dm.sU,Dm.sIf,Dm.sNx,Dm.dF,Dm.dc,Dm.e1,Dm.e2,Dm.eB,Dm.eAs,Dm.eC,Dm.eV,Dm.bJ,Dm.bS,Dm.eF,Dm.eIf,Dm.dI,Dm.eOr,Dm.eW,Dm.tV,Dm.bM,Dm.dB,Dm.tOr,Dm.bD,Dm.pk,Dm.tk,Dm.pks,Dm.tks,RV.bI,RV.dat,Dm.bW,Dm.bh,Dm.dG,Dm.cH,Dm.cK,Dm.bu,Dm.cX,Dm.gLt,Dm.gLe,Dm.gGt,Dm.eu,Dm.bX,Dm.ck,Dm.b4,Dm.cu,Dm.cG,Dm.cA,Dm.bE,Dm.gk,Dm.isI,Dm.isB,Dm.isL,Dm.isT,Dm.vB,Dm.vI,Uc,UP,Ub,Us,Uk,Ur,fj,Ua,PU,Uq,Ul,Uo,US,if_true,if_false,UL,Dm.iR1,Dm.iR2,Dm.iS,Dm.bN,Dm.bT,Dm.sets,reduceIte,UA,Dm.bH,Uv,Uw,Up,Ux,true_or,or_true,true_and,and_true,decide_true,decide_false,false_or,or_false,false_and,and_false]
noncomputable abbrev Hi:Int:=700000000000000000000000000000
noncomputable def RW:Option Out->Option RV
 |some (.ret r _)=>some r
 |some (.nx _)=>some (.val .non)
 |_=>none
theorem RX{ρ:Env}(h:ds.length=n)(hρ:ds.map Cell.sh++fj m .un=ρ):fn n m body ds=RW (body ρ):=by unfold fn;rw[if_pos h,hρ];rfl
theorem Gy(ns:List Int)(most:Int)(hl:10<=ns.length)(hl2:ns.length<=1000)(h0:0<=most)(h60:most<=60) :
  ∃(n:Int) (r:List Tie),E_ [.lst (ns.map Dat.int),.int most]=some (.val (.tup [.int n,bC r]))/\1<=n/\n<=10/\Good n 0 r/\(∀t∈r,t.m<=Hi)/\(r.length:Int)<=most:=by
 obtain⟨n,n1,n2,eA⟩:=stA ns most hl;obtain⟨many,a1,a2,eB'⟩:=stB ns most n hl;obtain⟨wide,mo,w1,w2,m1,m2,eC'⟩:=stC ns most n many hl;have c3:(0<(3:Int)/\(3:Int)<mF)=True:=by simp[mF]
 have cn:∃ZJ:Nat,(if most<many then (if ((ns.length:Int)-4) / 3<most then ((ns.length:Int)-4) / 3 else most) else (if ((ns.length:Int)-4) / 3<many then ((ns.length:Int)-4) / 3 else many))=(ZJ:Int)/\(ZJ:Int)<=most/\3+3*(ZJ:Int)<ns.length:=by
  refine⟨(if most<many then (if ((ns.length:Int)-4) / 3<most then ((ns.length:Int)-4) / 3 else most) else (if ((ns.length:Int)-4) / 3<many then ((ns.length:Int)-4) / 3 else many)).toNat,?_,?_,?_⟩
  ·split<;>split<;>lia
  ·split<;>split<;>lia
  ·split<;>split<;>lia
 obtain⟨ZJ,ec,cm,cl⟩:=cn;obtain⟨r,mo',c7,c8,c9,e,rl,rg,ru⟩:=Ff ns n many wide most n1 n2 w1 w2 ZJ 0 mo [] .un .un .un (by decide) (by lia) (by simp;lia);refine⟨n,r,?_,n1,n2,?_,fun t ht=>?_,by lia⟩
 ·unfold E_;refine(RX (ρ:=[.sh (.lst (ns.map Dat.int)),.sh (.int most),.un,.un,.un,.un,.un,.un,.un,.un]) (by rfl) (by rfl)).trans ?_;rw[eA,eB',eC'];have hb:((ZJ:Int)<=BIG/\-BIG<=(ZJ:Int))=True:=by simp only[eq_iff_iff,iff_true];unfold BIG;lia
  have z2:(2<=SZ)=True:=by simp[SZ]
  rw[Uk]at e;simp(config:={ decide:=true }) only[Ud,c3,ec,hb,W8,e,z2,RW,Dm.fn,Dm.aO,Dm.sA,Dm.sR,Dm.sE,Dm.sU,Dm.sIf,Dm.sNx,Dm.dF,Dm.dc,Dm.e1,Dm.e2,Dm.eB,Dm.eAs,Dm.eC,Dm.eV,Dm.bJ,Dm.bS,Dm.eF,Dm.eIf,Dm.dI,Dm.eOr,Dm.eW,Dm.tV,Dm.bM,Dm.dB,Dm.tOr,Dm.bD,Dm.pk,Dm.tk,Dm.pks,Dm.tks,RV.bI,RV.dat,Dm.bW,Dm.bh,Dm.dG,Dm.cH,Dm.cK,Dm.bu,Dm.cX,Dm.gLt,Dm.gLe,Dm.gGt,Dm.eu,Dm.bX,Dm.ck,Dm.b4,Dm.cu,Dm.cG,Dm.cA,Dm.bE,Dm.gk,Dm.isI,Dm.isB,Dm.isL,Dm.isT,Dm.vB,Dm.vI,Uc,UP,Ub,Us,Uk,Ur,fj,Ua,PU,Uq,Ul,Uo,US,if_true,if_false,UL,Dm.iR1,Dm.iR2,Dm.iS,Dm.bN,Dm.bT,Dm.sets,reduceIte,UA,Dm.bH,Uv,Uw,Up,Ux,true_or,or_true,true_and,and_true,decide_true,decide_false,false_or,or_false,false_and,and_false]
 ·have mono:∀(r:List Tie) (a b:Int),a<=b->Good n b r->Good n a r:=fun r a b h g=>by
   cases r with
   |nil=>trivial
   |cons x y=>exact⟨Int.le_trans h g.1,g.2⟩
  exact mono r _ _ m1 rg
 ·have:=ru t ht;have h1:(ZJ:Int)*Z28<=60*Z28:=by unfold Z28;lia
  have:(60:Int)*Z28=600000000000000000000000000000:=by decide
  show t.m<=700000000000000000000000000000
  lia
theorem yF(i:Int):Me [.int i]=some (.val (.bl true)):=by
 apply Yt;unfold Me
 (refine Dm.Yr ?_ rfl rfl;and_intros)
 repeat array_get_dec
 refine Zd rfl ?_
 repeat array_get_dec
 rfl
theorem qu(i lo hi:Int)(h1:lo<=i)(h2:i<=hi):zR [.int i,.int lo,.int hi]=some (.val (.bl true)):=by
 unfold zR;have h1':(lo<=i)=True:=by simp[h1]
 have h2':(i<=hi)=True:=by simp[h2]
 simp(config:={ decide:=true }) only[yF,h1',h2',Dm.fn,Dm.aO,Dm.sA,Dm.sR,Dm.sE,Dm.sU,Dm.sIf,Dm.sNx,Dm.dF,Dm.dc,Dm.e1,Dm.e2,Dm.eB,Dm.eAs,Dm.eC,Dm.eV,Dm.bJ,Dm.bS,Dm.eF,Dm.eIf,Dm.dI,Dm.eOr,Dm.eW,Dm.tV,Dm.bM,Dm.dB,Dm.tOr,Dm.bD,Dm.pk,Dm.tk,Dm.pks,Dm.tks,RV.bI,RV.dat,Dm.bW,Dm.bh,Dm.dG,Dm.cH,Dm.cK,Dm.bu,Dm.cX,Dm.gLt,Dm.gLe,Dm.gGt,Dm.eu,Dm.bX,Dm.ck,Dm.b4,Dm.cu,Dm.cG,Dm.cA,Dm.bE,Dm.gk,Dm.isI,Dm.isB,Dm.isL,Dm.isT,Dm.vB,Dm.vI,Uc,UP,Ub,Us,Uk,Ur,fj,Ua,PU,Uq,Ul,Uo,US,if_true,if_false,UL,Dm.iR1,Dm.iR2,Dm.iS,Dm.bN,Dm.bT,Dm.sets,reduceIte,UA,Dm.bH,Uv,Uw,Up,Ux,true_or,or_true,true_and,and_true,decide_true,decide_false,false_or,or_false,false_and,and_false]
theorem yG(n i:Int)(h0:0<=i)(h1:i<n):DM [.int n,.int i]=some (.val (.bl true)):=by
 apply Yt;unfold DM
 (refine Dm.Yr ?_ rfl rfl;and_intros)
 refine YA (YD (m_ (U_ rfl (m_ (Yp (m_ (W_ (U_ rfl (Yp (YQ ?_ rfl rfl))))))))));exact V_ (X_ (qu i 0 (n-1) h0 (by lia)) rfl rfl rfl)
theorem Aq(m:Int)(h0:0<=m)(h1:m<=Z30):Gx [.int m]=some (.val (.bl true)):=by
 apply Yt;unfold Gx
 (refine Dm.Yr ?_ rfl rfl;and_intros)
 refine YA (YD (m_ (U_ rfl (m_ (Yp (m_ (W_ (Yp (Yp (YT (z:=Z30) ?_ rfl rfl (by decide) (by decide)))))))))));exact V_ (X_ (qu m 0 Z30 h0 h1) rfl rfl rfl)
theorem vh(n:Int)(t:Tie)(m0:0<=t.m)(m1:t.m<=Z30)(a0:0<=t.a)(a1:t.a<n)(b0:0<=t.b)(b1:t.b<n):kJ [.int n,eU t]=some (.val (.bl true)):=by
 apply Yt;unfold kJ eU
 (refine Dm.Yr ?_ rfl rfl;and_intros)
 repeat array_get_dec
 refine Ys rfl ?_
 repeat array_get_dec
 refine Ys rfl ?_
 repeat array_get_dec
 refine X_ (Aq t.m m0 m1) ?_ rfl rfl
 repeat array_get_dec
 refine X_ (yG n t.a a0 a1) ?_ rfl rfl
 repeat array_get_dec
 refine X_ (yG n t.b b0 b1) ?_ rfl rfl
 repeat array_get_dec
 rfl
theorem je(n:Int)(n1:1<=n)(n10:n<=10):vf [.int n]=some (.val .non):=by
 have e:lD [.int n]=some (.val (.bl true)):=by unfold lD;simp(config:={ decide:=true }) only[qu n 1 10 n1 n10,Dm.fn,Dm.aO,Dm.sA,Dm.sR,Dm.sE,Dm.sU,Dm.sIf,Dm.sNx,Dm.dF,Dm.dc,Dm.e1,Dm.e2,Dm.eB,Dm.eAs,Dm.eC,Dm.eV,Dm.bJ,Dm.bS,Dm.eF,Dm.eIf,Dm.dI,Dm.eOr,Dm.eW,Dm.tV,Dm.bM,Dm.dB,Dm.tOr,Dm.bD,Dm.pk,Dm.tk,Dm.pks,Dm.tks,RV.bI,RV.dat,Dm.bW,Dm.bh,Dm.dG,Dm.cH,Dm.cK,Dm.bu,Dm.cX,Dm.gLt,Dm.gLe,Dm.gGt,Dm.eu,Dm.bX,Dm.ck,Dm.b4,Dm.cu,Dm.cG,Dm.cA,Dm.bE,Dm.gk,Dm.isI,Dm.isB,Dm.isL,Dm.isT,Dm.vB,Dm.vI,Uc,UP,Ub,Us,Uk,Ur,fj,Ua,PU,Uq,Ul,Uo,US,if_true,if_false,UL,Dm.iR1,Dm.iR2,Dm.iS,Dm.bN,Dm.bT,Dm.sets,reduceIte,UA,Dm.bH,Uv,Uw,Up,Ux,true_or,or_true,true_and,and_true,decide_true,decide_false,false_or,or_false,false_and,and_false]
 unfold vf;simp(config:={ decide:=true }) only[e,Dm.fn,Dm.aO,Dm.sA,Dm.sR,Dm.sE,Dm.sU,Dm.sIf,Dm.sNx,Dm.dF,Dm.dc,Dm.e1,Dm.e2,Dm.eB,Dm.eAs,Dm.eC,Dm.eV,Dm.bJ,Dm.bS,Dm.eF,Dm.eIf,Dm.dI,Dm.eOr,Dm.eW,Dm.tV,Dm.bM,Dm.dB,Dm.tOr,Dm.bD,Dm.pk,Dm.tk,Dm.pks,Dm.tks,RV.bI,RV.dat,Dm.bW,Dm.bh,Dm.dG,Dm.cH,Dm.cK,Dm.bu,Dm.cX,Dm.gLt,Dm.gLe,Dm.gGt,Dm.eu,Dm.bX,Dm.ck,Dm.b4,Dm.cu,Dm.cG,Dm.cA,Dm.bE,Dm.gk,Dm.isI,Dm.isB,Dm.isL,Dm.isT,Dm.vB,Dm.vI,Uc,UP,Ub,Us,Uk,Ur,fj,Ua,PU,Uq,Ul,Uo,US,if_true,if_false,UL,Dm.iR1,Dm.iR2,Dm.iS,Dm.bN,Dm.bT,Dm.sets,reduceIte,UA,Dm.bH,Uv,Uw,Up,Ux,true_or,or_true,true_and,and_true,decide_true,decide_false,false_or,or_false,false_and,and_false]
noncomputable def mq(t:Tie):Tie:=⟨t.m,if t.b<t.a then t.b else t.a,if t.b>t.a then t.b else t.a⟩
theorem Cz{t:Tie}(h:t.a<=t.b):mq t=t:=by
 cases t with
 |mk m a b=>
  have h:a<=b:=h;unfold mq;dsimp only
  congr 1
  ·rw[if_neg (by lia)]
  ·split<;>lia
theorem Dv(t:Tie):DN [eU t]=some (.val (eU (mq t))):=by
 apply Yt;unfold DN
 (refine Dm.Yr ?_ rfl rfl;and_intros)
 repeat array_get_dec
 rfl
noncomputable def l3(t:Tie):List Int:=[t.m,t.a,t.b]
theorem Pk{t u:Tie}(h:l3 t=l3 u):t=u:=by
 cases t;cases u;unfold l3 at h;injection h with h1 h2
 injection h2 with h2 h3
 injection h3 with h3
 cases h1;cases h2;cases h3;rfl
theorem Fg(r:List Tie):bC r=.lst ((r.map l3).map Ga):=by unfold bC;rw[Wf];rfl
theorem Jj{x y:Int}{s t:List Int}(h:x<y):lx (y::t) (x::s)=false:=by rw[lx,if_neg (by lia)];exact decide_eq_false (by lia)
theorem As(l:List (List Int)):(l9 lx l).Pairwise fun a b=>lx b a=false:=mR (fun a b c h1 h2=>by
  cases h:lx c a
  ·rfl
  ·rcases Dq c b a h with z | z
   ·rw[z]at h2;cases h2
   ·rw[z]at h1;cases h1) (fun a b h=>by
  cases h':lx b a
  ·rfl
  ·have:=n8 a b a h h';rw[qo]at this;cases this) l
theorem Mi{l m:List (List Int)}(p:l.Perm m)(h:l.Pairwise fun a b=>lx b a=false):l9 lx m=l:=
 n_ (lt:=lx) n9 ((mQ _ m).trans p.symm) (As m) h
theorem Au:∀(nss:List (List Int)),(∀ns∈nss,ns≠[])->yj (nss.map Ga)=some nss
 |[],_=>rfl
 |ns::nss,h=>by
  rw[Uc];unfold Ga;rw[yj,yD];dsimp only;have:ns.isEmpty=false:=by
   cases ns with
   |nil=>exact absurd rfl (h [] Uj)
   |cons _ _=>rfl
  rw[this];simp only[Uu,if_false];have ih:=Au nss fun x hx=>h x (Ue _ hx);unfold Ga at ih;rw[ih];rfl
theorem Jk{α:Type}[DecidableEq α]{l m:List α}(h1:l.Nodup)(h2:m.Nodup)(h:∀x,x∈l↔x∈m):l.Perm m:=by
 rw[List.perm_iff_count];intro a;rw[h1.count,h2.count];by_cases q:a∈l
 ·rw[if_pos q,if_pos ((h a).mp q)]
 ·rw[if_neg q,if_neg fun z=>q ((h a).mpr z)]
theorem vj:∀(ns Mc:List (List Int)),Mc.Nodup->(ns.foldl (fun Mc x=>if Mc.any (· == x) then Mc else Mc++[x]) Mc).Nodup/\∀y,y∈ns.foldl (fun Mc x=>if Mc.any (· == x) then Mc else Mc++[x]) Mc↔y∈Mc\/y∈ns
 |[],Mc,h=>⟨h,fun y=>by simp⟩
 |x::ns,Mc,h=>by
  rw[Wj];by_cases q:x∈Mc
  ·rw[if_pos (WG.mpr ⟨x,q,by simp⟩)];obtain⟨a,b⟩:=vj ns Mc h;refine⟨a,fun y=>(b y).trans ⟨fun z=>z.imp id (Ue _),fun z=>?_⟩⟩;rcases z with z | z
   ·exact .inl z
   ·rcases Ui.mp z with rfl | z
    ·exact .inl q
    ·exact .inr z
  ·rw [if_neg fun z=>by
    obtain⟨y,hy,e⟩:=WG.mp z;have:y=x:=by simpa using e
    exact q (this▸hy)]
   obtain⟨a,b⟩:=vj ns (Mc++[x]) (List.nodup_append.mpr ⟨h,by simp,fun u hu v hv e=>by rw[UK.mp hv]at e;exact q (e▸hu)⟩);refine⟨a,fun y=>(b y).trans ?_⟩;simp only[Uy,Ui,VV,or_false];exact⟨fun z=>by rcases z with(z | z) | z;exact .inl z;exact .inr (.inl z);exact .inr (.inr z),fun z=>by rcases z with z | z | z;exact .inl (.inl z);exact .inl (.inr z);exact .inr z⟩
theorem Av(ns:List (List Int)):(gm ns).Nodup/\∀y,y∈gm ns↔y∈ns:=by obtain⟨a,b⟩:=vj ns [] List.nodup_nil;exact⟨a,fun y=>(b y).trans (by simp)⟩
noncomputable abbrev Gz(D:List Tie):Prop:=D.Pairwise fun t u=>t.m<u.m
theorem Gz.nodup(h:Gz D):(D.map l3).Nodup:=by
 refine V6.mpr (h.imp fun {t u} q z=>?_);have:=Pk z;subst this
 lia
theorem Gz.sorted(h:Gz D):(D.map l3).Pairwise fun a b=>lx b a=false:=by refine V6.mpr (h.imp fun {t u} q=>?_);exact Jj q
structure Tok(n:Int)(T:List Tie):Prop where
 ok:∀t∈T,0<=t.m/\t.m<=Z30/\0<=t.a/\t.a<n/\0<=t.b/\t.b<n
 len:T.length<=1000
theorem yH{f:List Dat->Option RV}{as:List FE}(h1:eAs as ρ=some (xs,ρ1))(h2:pks ρ1 xs=some ds)(h:f ds=none):eF f as ρ=none:=by unfold eF;rw[h1];dsimp only;rw[h2];dsimp only;rw[h]
theorem yI{e:FE}{ρ:Env}(h:e ρ=none):sE e ρ=none:=by unfold sE;rw[h]
theorem t_{ρ:Env}(h:a ρ=none):aO a b ρ=none:=by unfold aO;rw[h]
theorem oH(h:a ρ=some (.nx ρ1)):aO a b ρ=b ρ1:=by unfold aO;rw[h]
theorem jf{a:FS}{R:Env->Option Env}(h:a ρ=some (.nx ρ1)):u_ a R ρ=R ρ1:=by unfold u_;rw[h]
theorem Mj{ρ:Env}(ht:t ρ=some (true,ρ)):sIf t a b ρ=a ρ:=by unfold sIf;rw[ht]
theorem CA{a:FS}{ρ:Env}(ht:t ρ=some (false,ρ)):sIf t a sNx ρ=some (.nx ρ):=by unfold sIf;rw[ht];rfl
theorem Fi{ρ:Env}(ht:t ρ=some (true,ρ)):rIf t R S ρ=R ρ:=by unfold rIf;rw[ht]
theorem CB{ρ:Env}(ht:t ρ=some (false,ρ)):rIf t R S ρ=S ρ:=by unfold rIf;rw[ht]
theorem CC{ρ:Env}(h:R ρ=none):rOr R S ρ=S ρ:=by unfold rOr;rw[h]
theorem Mk(h:R ρ=some ρ1):rOr R S ρ=some ρ1:=by unfold rOr;rw[h]
theorem RY{ρ:Env}{R:RV->Env->Prop}(k:Ws f ρ N R B C):Ws (sUn f g) ρ N R B C:=by obtain⟨o,e,q⟩:=k;exact⟨o,by unfold sUn;rw[e],q⟩
theorem GA{ρ:Env}(h:f ρ=none){R:RV->Env->Prop}(k:Ws g ρ N R B C):Ws (sUn f g) ρ N R B C:=by obtain⟨o,e,q⟩:=k;exact⟨o,by unfold sUn;rw[h];exact e,q⟩
theorem yJ{R:Env->Option Env}{C ie:Nat}{ρ:Env}(e:R ρ=none):oE R C ie h ρ=none:=by unfold oE;rw[e]
theorem Jl{C ie:Nat}(e:Rr ρ=some ρ1)(h0:ie≠0){R:RV->Env->Prop}{B D:Env->Prop}(k:Ws h (ρ1.set ie (.sh (.exc C))) (fun ρ'=>N (ρ'.set ie .un)) (fun r ρ'=>R r (ρ'.set ie .un)) (fun _=>False) (fun _=>False)):Ws (oE Rr C ie h) ρ N R B D:=by
 obtain⟨o,eo,q⟩:=k;cases o with
 |nx ρ'=>exact⟨.nx (ρ'.set ie .un),by unfold oE;rw[e];dsimp only;rw[if_neg h0,eo],q⟩
 |ret r ρ'=>exact⟨.ret r (ρ'.set ie .un),by unfold oE;rw[e];dsimp only;rw[if_neg h0,eo],q⟩
 |bk ρ'=>exact q.elim
 |ct ρ'=>exact q.elim
theorem Ml{d:Dat}{ie:Nat}(e:Rr ρ=some ρ1)(h0:ie≠0){R:RV->Env->Prop}{B D:Env->Prop}(k:Ws h (ρ1.set ie (.sh d)) (fun ρ'=>N (ρ'.set ie .un)) (fun r ρ'=>R r (ρ'.set ie .un)) (fun _=>False) (fun _=>False)):Ws (tW Rr d ie h) ρ N R B D:=by
 obtain⟨o,eo,q⟩:=k;cases o with
 |nx ρ'=>exact⟨.nx (ρ'.set ie .un),by unfold tW;rw[e];dsimp only;rw[if_neg h0,eo],q⟩
 |ret r ρ'=>exact⟨.ret r (ρ'.set ie .un),by unfold tW;rw[e];dsimp only;rw[if_neg h0,eo],q⟩
 |bk ρ'=>exact q.elim
 |ct ρ'=>exact q.elim
theorem Mm{Rr:Int->Env->Option Env}{C ie:Nat}{h:FS}{m:Int}(e:Rr m ρ=some ρ1)(u:∀i,(Rr i ρ).isSome=true->i=m)(h0:ie≠0){N:Env->Prop}{R:RV->Env->Prop}{B D:Env->Prop}
  (k:Ws h (ρ1.set ie (.sh (.cz C m))) (fun ρ'=>N (ρ'.set ie .un)) (fun r ρ'=>R r (ρ'.set ie .un)) (fun _=>False) (fun _=>False)):Ws (yw Rr C ie h) ρ N R B D:=by
 have ex:∃i,(Rr i ρ).isSome=true:=⟨m,by rw[e];rfl⟩
 have em:ex.choose=m:=u _ ex.choose_spec;have eq:yw Rr C ie h ρ=tW (Rr m) (.cz C m) ie h ρ:=by unfold yw;rw[dif_pos ex,em]
 obtain⟨o,eo,q⟩:=Ml (N:=N) (R:=R) (B:=B) (D:=D) e h0 k;exact⟨o,eq.trans eo,q⟩
theorem mz(h1:eAs fs ρ=some (xs,ρ1))(h2:pks ρ1 xs=some ds)(h:bad ds=true):jd bad fs ρ=some ρ1:=by unfold jd;rw[h1];dsimp only;rw[h2];dsimp only;rw[if_pos h]
theorem ku(h1:eAs fs ρ=some (xs,ρ1))(h2:pks ρ1 xs=some ds)(h:bad ds=false):jd bad fs ρ=none:=by unfold jd;rw[h1];dsimp only;rw[h2];dsimp only;rw[h];rfl
theorem Bj(h1:eAs fs ρ=some (xs,ρ1))(h2:pks ρ1 xs=some ds)(h:(jd bad fs ρ).isSome=true):bad ds=true:=by
 cases hb:bad ds with
 |true=>rfl
 |false=>rw[ku h1 h2 hb]at h;cases h
theorem qv(h:body (ds.map Cell.sh++fj m .un)=none):fn n m body ds=none:=by
 unfold fn;split
 ·rw[h]
 ·rfl
theorem lE{R:Env->Option Env}(hl:ds.length=n):fnX n m R ds=(R (ds.map Cell.sh++fj m .un)).isSome:=by unfold fnX;rw[decide_eq_true hl,Bool.true_and]
theorem yK:∀{cs:List Nat} {bs:List Bool} {i:Nat} {C:Nat},cs.Nodup->cs.length=bs.length->cs[i]?=some C->zQ cs bs C=some (bs.getD i false)
 |[],_,i,C,_,_,h=>by simp at h
 |c::cs,[],i,C,_,hl,_=>by simp at hl
 |c::cs,b::bs,0,C,_,_,h=>by cases h;unfold zQ;rw[if_pos rfl];rfl
 |c::cs,b::bs,i+1,C,hn,hl,h=>by
  have hm:C∈cs:=VO h;have ne:C≠c:=fun z=>by subst z;exact(VI.mp hn).1 hm
  unfold zQ;rw[if_neg ne,yK (VI.mp hn).2 (by simpa using hl) h];rfl
def Isx(cs:List Nat)(e:Dat)(i:Nat):Prop:=∀bs:List Bool,cs.length=bs.length->eY cs bs e=some (.val (.bl (bs.getD i false)))
theorem nN{i C:Nat}(hn:cs.Nodup)(h:cs[i]?=some C):Isx cs (.exc C) i:=fun bs hl=>by unfold eY;dsimp only;rw[yK hn hl h];rfl
theorem Nd{i C:Nat}{m:Int}(hn:cs.Nodup)(h:cs[i]?=some C):Isx cs (.cz C m) i:=fun bs hl=>by unfold eY;dsimp only;rw[yK hn hl h];rfl
noncomputable def RZ(i:Nat):List Dat:=(UG 11).map fun j=>Dat.bl (decide (j=i))
end
section
variable(x0 x1 x2 x3 x4 x5 x6 x7 x8 x9 x10:Nat)
noncomputable abbrev CD:List Nat:=[x0,x1,x2,x3,x4,x5,x6,x7,x8,x9,x10]
theorem CF{e:Dat}{i:Nat}(hi:i<11)(h:Isx (CD x0 x1 x2 x3 x4 x5 x6 x7 x8 x9 x10) e i):i9 x0 x1 x2 x3 x4 x5 x6 x7 x8 x9 x10 [e]=some (.new (.lst (RZ i))):=by
 apply Yt;unfold i9
 (refine Dm.Yr ?_ rfl rfl;and_intros)
 refine Yo (YE (Y0 (m_ (Yu (U_ rfl (Yq ?_ rfl (h _ rfl)))))) (by decide));refine m_ (Yu (U_ rfl (Yq ?_ rfl (h _ rfl))));refine m_ (Yu (U_ rfl (Yq ?_ rfl (h _ rfl))));refine V_ (YG ?_ rfl rfl (by exact U8 rfl));refine YL ?_ (by trivial);refine Yo (YE (W_ (Yz rfl (Y0 (m_ (Yu (U_ rfl (Yq ?_ rfl (h _ rfl)))))))) (by decide));refine m_ (Yu (U_ rfl (Yq ?_ rfl (h _ rfl))));refine m_ (Yu (U_ rfl (Yq ?_ rfl (h _ rfl))));refine V_ (YG ?_ rfl rfl (by exact U8 rfl));refine YV ?_ rfl rfl (by exact U8 rfl);refine YL ?_ (by trivial);refine Yo (YE (W_ (Yz rfl (Y0 (m_ (Yu (U_ rfl (Yq ?_ rfl (h _ rfl)))))))) (by decide));refine m_ (Yu (U_ rfl (Yq ?_ rfl (h _ rfl))));refine m_ (Yu (U_ rfl (Yq ?_ rfl (h _ rfl))));refine V_ (YG ?_ rfl rfl (by exact U8 rfl));refine YV ?_ rfl rfl (by exact U8 rfl);refine YL ?_ (by trivial);refine YA (W_ (Yz rfl (Y0 (m_ (Yu (U_ rfl (Yq ?_ rfl (h _ rfl))))))));refine m_ (Yu (U_ rfl (Yq ?_ rfl (h _ rfl))));refine V_ (YG ?_ rfl rfl (by exact U8 rfl));refine YV ?_ rfl rfl (by exact U8 rfl);refine Y_ ?_
 match i,hi with
 |0,_=>rfl
 |1,_=>rfl
 |2,_=>rfl
 |3,_=>rfl
 |4,_=>rfl
 |5,_=>rfl
 |6,_=>rfl
 |7,_=>rfl
 |8,_=>rfl
 |9,_=>rfl
 |10,_=>rfl
end
noncomputable def Pn:Option RV->Bool
 |some (.val (.bl true))=>true
 |_=>false
noncomputable def Mn:Option RV->Bool
 |some (.val (.bl false))=>true
 |_=>false
theorem Fj{x:Option RV}(h:Mn x=true):x=some (.val (.bl false)):=by
 unfold Mn at h;split at h
 ·rfl
 ·cases h
section
variable(n t:Dat)
noncomputable abbrev jh:Env:=[.sh n,.sh t,.un]
noncomputable abbrev T1:FT:=tOr (bM (tV (e1 (tK isL) (eV 1)))) (bM (tV (eB zH [(g9 1 1 (bN 3) bD (eF kJ [(eV 0),(eV 3)]))])))
theorem Po{b:Bool}(h:lD [n]=some (.val (.bl b))):(bM (tV (eF lD [(eV 0)]))) [.sh n]=some (!b,[.sh n]):=
 YN (YI (YC (YD (m_ (U_ rfl (V_ (X_ h (Yw ⟨rfl,rfl⟩) rfl rfl)))))))
theorem DR(h:lD [n]=some (.val (.bl false))):vf [n]=none:=qv (Mj (Po n h))
theorem xQ{b:Bool}(h:lD [n]=some (.val (.bl b))):cM [n]=!b:=by
 refine(lE rfl).trans ?_;cases b with
 |true=>exact congrArg VL (CB (Po n h))
 |false=>exact congrArg VL (Fi (Po n h))
theorem yL(h:vf [n]=some (.val .non)):sE (eF vf [(eV 0)]) (jh n t)=some (.nx (jh n t)):=by have e:eF vf [(eV 0)] (jh n t)=some (.val .non,jh n t):=Y7 (YD (m_ (U_ rfl (V_ (X_ h ⟨rfl,rfl⟩ rfl rfl)))));unfold sE;rw[e]
theorem R0(h:lD [n]=some (.val (.bl false))):Bd [n,t]=none/\aX [n,t]=true:=by refine⟨qv (t_ (yI (ρ:=jh n t) (yH (ds:=[n]) rfl rfl (DR n h)))),?_⟩;refine(lE rfl).trans ?_;exact congrArg VL (mz (ρ:=jh n t) (ds:=[n]) rfl rfl (xQ n h))
theorem Jm(h:lD [n]=some (.val (.bl true)))(hk:vf [n]=some (.val .non))(h1:T1 (jh n t)=some (true,jh n t)):Bd [n,t]=none/\aX [n,t]=false/\bw [n,t]=true:=by
 have q1:=yL n t hk;refine⟨qv ((oH q1).trans (t_ (Mj h1))),?_,?_⟩
 ·exact(lE rfl).trans (congrArg VL (ku (ρ:=jh n t) (ds:=[n]) rfl rfl (xQ n h)))
 ·exact(lE rfl).trans (congrArg VL ((jf q1).trans (Mk (ρ:=jh n t) (Fi h1))))
noncomputable abbrev S2:FS:=sA 2 (e1 gf (g9 1 1 (bN 3) bD (eF DN [(eV 3)])))
noncomputable abbrev T2:FT:=tV (e2 gGt (eB ck [(eV 2)]) (eC (.int 60)))
noncomputable abbrev yM(D:Dat):Env:=[.sh n,.sh t,.ow D]
theorem Pp{D:Dat}(h:lD [n]=some (.val (.bl true)))(hk:vf [n]=some (.val .non))(h1:T1 (jh n t)=some (false,jh n t))(h2:S2 (jh n t)=some (.nx (yM n t D)))(h3:T2 (yM n t D)=some (true,yM n t D)) :
  Bd [n,t]=none/\aX [n,t]=false/\bw [n,t]=true:=by
 have q1:=yL n t hk;refine⟨qv ((oH q1).trans ((oH (CA h1)).trans ((oH h2).trans (t_ (Mj h3))))),?_,?_⟩
 ·exact(lE rfl).trans (congrArg VL (ku (ρ:=jh n t) (ds:=[n]) rfl rfl (xQ n h)))
 ·exact(lE rfl).trans (congrArg VL ((jf q1).trans ((CC (ρ:=jh n t) (CB h1)).trans ((jf (CA h1)).trans ((jf h2).trans (Fi h3))))))
theorem R3{D:Dat}{m:Int}(h:lD [n]=some (.val (.bl true)))(hk:vf [n]=some (.val .non))(h1:T1 (jh n t)=some (false,jh n t))(h2:S2 (jh n t)=some (.nx (yM n t D)))(h3:T2 (yM n t D)=some (false,yM n t D))
  (h4:Mf [D]=none) (h5:∀i,cE i [D]=decide (i=m)) :
  Bd [n,t]=none/\aX [n,t]=false/\bw [n,t]=false/\∀i,cN i [n,t]=decide (i=m):=by
 have q1:=yL n t hk;refine⟨qv ((oH q1).trans ((oH (CA h1)).trans ((oH h2).trans ((oH (CA h3)).trans (t_ (yI (yH (ds:=[D]) rfl rfl h4))))))),?_,?_,fun i=>?_⟩
 ·exact(lE rfl).trans (congrArg VL (ku (ρ:=jh n t) (ds:=[n]) rfl rfl (xQ n h)))
 ·exact(lE rfl).trans (congrArg VL ((jf q1).trans ((CC (ρ:=jh n t) (CB h1)).trans ((jf (CA h1)).trans ((jf h2).trans (CB h3))))))
 ·refine(lE rfl).trans ((congrArg VL ((jf q1).trans ((jf (CA h1)).trans ((jf h2).trans (jf (CA h3)))))).trans ?_);by_cases z:i=m
  ·rw[decide_eq_true z,mz (ρ:=yM n t D) (ds:=[D]) rfl rfl (by rw[h5];exact decide_eq_true z)];rfl
  ·rw[decide_eq_false z,ku (ρ:=yM n t D) (ds:=[D]) rfl rfl (by rw[h5];exact decide_eq_false z)];rfl
end
section
variable(x0 x1 x2 x3 x4 x5 x6 x7 x8 x9 x10:Nat)
section
variable{mo:Int}{n t:Dat}{i:Nat}
noncomputable def Jo:FS:=(aO (sIf (tOr (tV (e2 Ge (eV 4) (eC .non))) (tV (e2 gNe (eF (i9 x0 x1 x2 x3 x4 x5 x6 x7 x8 x9 x10) [(eV 4)]) (nF (iR1 (eC (.int 11))) 1 (bN 6) bD (e2 gEq (eV 6) (eV 2)))))) (sR (eC (.bl false))) sNx)
  (sR (eOr (e2 gNe (eV 2) (eC (.int 2))) (e2 gEq (e1 (Ck x2) (eV 4)) (eV 3)))))
theorem qU:aT x0 x1 x2 x3 x4 x5 x6 x7 x8 x9 x10=fn 4 2 (aO (sA 4 (eC .non))
  (aO (sUn (sE (eF Bd [(eV 0),(eV 1)])) (sUn (oE (jd aX [(eV 0),(eV 1)]) x0 5 (sA 4 (eV 5))) (sUn (oE (jd bw [(eV 0),(eV 1)]) x1 5 (sA 4 (eV 5))) (yw (fun m=>(jd (cN m) [(eV 0),(eV 1)])) x2 5 (sA 4 (eV 5))))))
  (Jo x0 x1 x2 x3 x4 x5 x6 x7 x8 x9 x10))):=rfl
theorem TX{ρ:Env}:iR1 (eC (.int 11)) ρ=some ((UG 11).map fun i:Nat=>Dat.int (i:Int),ρ):=rfl
theorem Nf(hi:i<11):gNe (.lst (RZ i)) (.lst (((UG 11).map fun j:Nat=>decide ((j:Int)=(i:Int))).map Dat.bl))=some (.val (.bl false)):=by
 match i,hi with
 |0,_=>rfl
 |1,_=>rfl
 |2,_=>rfl
 |3,_=>rfl
 |4,_=>rfl
 |5,_=>rfl
 |6,_=>rfl
 |7,_=>rfl
 |8,_=>rfl
 |9,_=>rfl
 |10,_=>rfl
theorem Bk{n t e:Dat}(hi:i<11)(h:Isx (CD x0 x1 x2 x3 x4 x5 x6 x7 x8 x9 x10) e i)(hN:Dm.isN e=false)(hb:bW e=true)(hf:i=2->e=.cz x2 mo){N:Env->Prop}{R:RV->Env->Prop}{B C:Env->Prop}(k:∀ρ,R (.val (.bl true)) ρ) :
  Ws (Jo x0 x1 x2 x3 x4 x5 x6 x7 x8 x9 x10) [.sh n,.sh t,.sh (.int (i:Nat)),.sh (.int mo),.sh e,.un] N R B C:=by
 unfold Jo;refine Yo (YR (YY (YC (W_ (U_ rfl (Yp (Zp (Yw (Ys hN ?_)) rfl rfl)))))));refine YC (W_ (YD (m_ (U_ rfl (V_ (YH (CF x0 x1 x2 x3 x4 x5 x6 x7 x8 x9 x10 hi h) ?_ rfl rfl rfl rfl))))));refine Za (fun j:Nat=>Dat.int (j:Int)) (UG 11) (fun j:Nat=>decide ((j:Int)=((i:Nat):Int))) Dat.bl ?_ TX rfl (by decide) (by exact U8 rfl) fun j _=>W_ (U_ rfl (U_ rfl (YM (Yy ⟨rfl,rfl⟩) rfl rfl)));refine⟨_,_,_,rfl,rfl,Nf hi,Yw (YU (YW ?_))⟩;refine YA (Zl (W_ (U_ rfl (Yp (Zi (Yw ⟨fun g=>YJ (k _),fun g=>?_⟩) rfl rfl)))));have i2:i=2:=by
  simp at g
  lia
 have he:=hf i2;subst he;refine W_ (Yu (U_ rfl (Yq (v:=.val (.int mo)) ?_ rfl (by unfold Ck;dsimp only;rw[if_pos rfl];try rfl))));refine U_ rfl (YM ?_ rfl rfl);rw[decide_eq_true rfl];exact YJ (k _)
variable(hn:(CD x0 x1 x2 x3 x4 x5 x6 x7 x8 x9 x10).Nodup)
include hn
theorem vm(h:lD [n]=some (.val (.bl false))):aT x0 x1 x2 x3 x4 x5 x6 x7 x8 x9 x10 [n,t,.int 0,.int mo]=some (.val (.bl true)):=by
 obtain⟨h1,h2⟩:=R0 n t h;apply Yt;rw[qU]
 (refine Dm.Yr ?_ rfl rfl;and_intros)
 refine Yo (YE (Yp (YK ?_ (by trivial))) (by decide));refine Yo (GA (yI (yH (ds:=[n,t]) rfl rfl h1)) (RY (Jl (mz (ds:=[n,t]) rfl rfl h2) (by decide) (YE (U_ rfl (YK ?_ (by trivial))) (by decide)))));exact Bk x0 x1 x2 x3 x4 x5 x6 x7 x8 x9 x10 (i:=0) (by decide) (nN hn rfl) rfl rfl (fun z=>by cases z) fun _=>rfl
theorem vn(h:Bd [n,t]=none/\aX [n,t]=false/\bw [n,t]=true):aT x0 x1 x2 x3 x4 x5 x6 x7 x8 x9 x10 [n,t,.int 1,.int mo]=some (.val (.bl true)):=by
 obtain⟨h1,h2,h3⟩:=h;apply Yt;rw[qU]
 (refine Dm.Yr ?_ rfl rfl;and_intros)
 refine Yo (YE (Yp (YK ?_ (by trivial))) (by decide));refine Yo (GA (yI (yH (ds:=[n,t]) rfl rfl h1)) (GA (yJ (ku (ds:=[n,t]) rfl rfl h2)) (RY (Jl (mz (ds:=[n,t]) rfl rfl h3) (by decide) (YE (U_ rfl (YK ?_ (by trivial))) (by decide))))));exact Bk x0 x1 x2 x3 x4 x5 x6 x7 x8 x9 x10 (i:=1) (by decide) (nN hn rfl) rfl rfl (fun z=>by cases z) fun _=>rfl
theorem GB(h:Bd [n,t]=none/\aX [n,t]=false/\bw [n,t]=false/\∀i,cN i [n,t]=decide (i=mo)):aT x0 x1 x2 x3 x4 x5 x6 x7 x8 x9 x10 [n,t,.int 2,.int mo]=some (.val (.bl true)):=by
 obtain⟨h1,h2,h3,h4⟩:=h;apply Yt;rw[qU]
 (refine Dm.Yr ?_ rfl rfl;and_intros)
 refine Yo (YE (Yp (YK ?_ (by trivial))) (by decide));refine Yo (GA (yI (yH (ds:=[n,t]) rfl rfl h1)) (GA (yJ (ku (ds:=[n,t]) rfl rfl h2)) (GA (yJ (ku (ds:=[n,t]) rfl rfl h3)) (Mm (m:=mo) (mz (ds:=[n,t]) rfl rfl (by rw[h4];exact decide_eq_true rfl)) (fun i hi=>of_decide_eq_true ((h4 i).symm.trans (Bj (ds:=[n,t]) rfl rfl hi))) (by decide) (YE (U_ rfl (YK ?_ (by trivial))) (by decide))))));exact Bk x0 x1 x2 x3 x4 x5 x6 x7 x8 x9 x10 (i:=2) (by decide) (Nd hn rfl) rfl rfl (fun _=>rfl) fun _=>rfl
end
end
section
variable{D:List Tie}{n:Nat}{a:Nat}{xs:List Dat}{r:List Dat}{ρ ρ1:Env}{body:FS}{d:Dat}{bd:FB}{q:Nat}
theorem DU(xs:List Dat)(i:Int)(h0:0<=i)(h1:i<xs.length):∃x∈xs,gIx (.lst xs) (.int i)=some (.val x):=by
 have hl:i.toNat<xs.length:=by lia
 refine⟨xs[i.toNat],WD hl,?_⟩;show ((ixN xs.length i).bind fun j=>xs[j]?).map RV.val=_;unfold ixN;rw[if_pos h0,if_pos h1,Option.bind_some,Uz hl];rfl
theorem vp(i lo hi:Int)(h:hi<i)(h2:lo<=i):zR [.int i,.int lo,.int hi]=some (.val (.bl false)):=by
 unfold zR;have h1':(lo<=i)=True:=by simp[h2]
 have h2':(i<=hi)=False:=by simp;lia
 simp(config:={ decide:=true }) only[yF,h1',h2',Dm.fn,Dm.aO,Dm.sA,Dm.sR,Dm.sE,Dm.sU,Dm.sIf,Dm.sNx,Dm.dF,Dm.dc,Dm.e1,Dm.e2,Dm.eB,Dm.eAs,Dm.eC,Dm.eV,Dm.bJ,Dm.bS,Dm.eF,Dm.eIf,Dm.dI,Dm.eOr,Dm.eW,Dm.tV,Dm.bM,Dm.dB,Dm.tOr,Dm.bD,Dm.pk,Dm.tk,Dm.pks,Dm.tks,RV.bI,RV.dat,Dm.bW,Dm.bh,Dm.dG,Dm.cH,Dm.cK,Dm.bu,Dm.cX,Dm.gLt,Dm.gLe,Dm.gGt,Dm.eu,Dm.bX,Dm.ck,Dm.b4,Dm.cu,Dm.cG,Dm.cA,Dm.bE,Dm.gk,Dm.isI,Dm.isB,Dm.isL,Dm.isT,Dm.vB,Dm.vI,Uc,UP,Ub,Us,Uk,Ur,fj,Ua,PU,Uq,Ul,Uo,US,if_true,if_false,UL,Dm.iR1,Dm.iR2,Dm.iS,Dm.bN,Dm.bT,Dm.sets,reduceIte,UA,Dm.bH,Uv,Uw,Up,Ux,true_or,or_true,true_and,and_true,decide_true,decide_false,false_or,or_false,false_and,and_false]
theorem GC(i lo hi:Int)(h:i<lo):zR [.int i,.int lo,.int hi]=some (.val (.bl false)):=by
 unfold zR;have h1':(lo<=i)=False:=by simp;lia
 simp(config:={ decide:=true }) only[yF,h1',Dm.fn,Dm.aO,Dm.sA,Dm.sR,Dm.sE,Dm.sU,Dm.sIf,Dm.sNx,Dm.dF,Dm.dc,Dm.e1,Dm.e2,Dm.eB,Dm.eAs,Dm.eC,Dm.eV,Dm.bJ,Dm.bS,Dm.eF,Dm.eIf,Dm.dI,Dm.eOr,Dm.eW,Dm.tV,Dm.bM,Dm.dB,Dm.tOr,Dm.bD,Dm.pk,Dm.tk,Dm.pks,Dm.tks,RV.bI,RV.dat,Dm.bW,Dm.bh,Dm.dG,Dm.cH,Dm.cK,Dm.bu,Dm.cX,Dm.gLt,Dm.gLe,Dm.gGt,Dm.eu,Dm.bX,Dm.ck,Dm.b4,Dm.cu,Dm.cG,Dm.cA,Dm.bE,Dm.gk,Dm.isI,Dm.isB,Dm.isL,Dm.isT,Dm.vB,Dm.vI,Uc,UP,Ub,Us,Uk,Ur,fj,Ua,PU,Uq,Ul,Uo,US,if_true,if_false,UL,Dm.iR1,Dm.iR2,Dm.iS,Dm.bN,Dm.bT,Dm.sets,reduceIte,UA,Dm.bH,Uv,Uw,Up,Ux,true_or,or_true,true_and,and_true,decide_true,decide_false,false_or,or_false,false_and,and_false]
noncomputable def Jp(far:Int):List Dat:=[.int 0,.int 11,.int (-1),.bl true,.bl false,.non,.str [51],.str [],.lst [.int 3],.tup [.int 3],.int (11+far),.dct [] []]
theorem R4:((Jp 0).all fun x=>Mn (lD [x]))=true:=by decide +kernel
theorem GD(far:Int)(h:0<=far):lD [.int (11+far)]=some (.val (.bl false)):=by
 apply Yt;unfold lD
 (refine Dm.Yr ?_ rfl rfl;and_intros)
 exact YA (YD (m_ (U_ rfl (m_ (Yp (m_ (Yp (V_ (X_ (vp (11+far) 1 10 (by lia) (by lia)) rfl rfl rfl)))))))))
theorem DV(far:Int)(h:0<=far):∀x∈Jp far,lD [x]=some (.val (.bl false)):=fun x hx=>by
 have h0:=Vd.mp R4;unfold Jp at hx h0;simp only[Ui,VV,or_false]at hx;rcases hx with rfl | rfl | rfl | rfl | rfl | rfl | rfl | rfl | rfl | rfl | rfl | rfl
 case inr.inr.inr.inr.inr.inr.inr.inr.inr.inr.inl=>exact GD far h
 all_goals exact Fj (h0 _ (by simp))
theorem Bl(far num:Int)(h:0<=far):∃x,Fb [.int far,.int num]=some (.val x)/\lD [x]=some (.val (.bl false)):=by
 obtain⟨m0,m1⟩:=cW num 12 (by decide);obtain⟨x,hx,ex⟩:=DU (Jp far) (num % 12) m0 m1;refine⟨x,?_,DV far h x hx⟩;apply Yt;unfold Fb
 (refine Dm.Yr ?_ rfl rfl;and_intros)
 refine YA (W_ ⟨.new (.lst (Jp far)),_,rfl,?_⟩);refine W_ (U_ rfl (Yp (YF ?_ rfl rfl (by decide))));exact Yv (YJ rfl) rfl rfl ex
theorem GF(m:Int)(h:m<0\/Z30<m):Gx [.int m]=some (.val (.bl false)):=by
 apply Yt;unfold Gx
 (refine Dm.Yr ?_ rfl rfl;and_intros)
 refine YA (YD (m_ (U_ rfl (m_ (Yp (m_ (W_ (Yp (Yp (YT (z:=Z30) ?_ rfl rfl (by decide) (by decide)))))))))));refine V_ (X_ (v:=.val (.bl false)) ?_ rfl rfl rfl);rcases h with h | h
 ·exact GC m 0 Z30 h
 ·exact vp m 0 Z30 h (by unfold Z30 at h;lia)
theorem Jq(n i:Int)(h:n<=i)(h0:0<=i):DM [.int n,.int i]=some (.val (.bl false)):=by
 apply Yt;unfold DM
 (refine Dm.Yr ?_ rfl rfl;and_intros)
 refine YA (YD (m_ (U_ rfl (m_ (Yp (m_ (W_ (U_ rfl (Yp (YQ ?_ rfl rfl))))))))));exact V_ (X_ (vp i 0 (n-1) (by lia) h0) rfl rfl rfl)
theorem yN(n m a b:Int)(h:m<0\/Z30<m):kJ [.int n,.tup [.int m,.int a,.int b]]=some (.val (.bl false)):=by
 apply Yt;unfold kJ
 (refine Dm.Yr ?_ rfl rfl;and_intros)
 repeat array_get_dec
 refine Ys rfl ?_
 repeat array_get_dec
 refine Ys rfl ?_
 repeat array_get_dec
 refine X_ (GF m h) ?_ rfl rfl
 repeat array_get_dec
 rfl
theorem Jr(n b:Int)(n1:1<=n)(h:n<=b):kJ [.int n,.tup [.int 0,.int 0,.int b]]=some (.val (.bl false)):=by
 apply Yt;unfold kJ
 (refine Dm.Yr ?_ rfl rfl;and_intros)
 repeat array_get_dec
 refine Ys rfl ?_
 repeat array_get_dec
 refine Ys rfl ?_
 repeat array_get_dec
 refine X_ (Aq 0 (by decide) (by decide)) ?_ rfl rfl
 repeat array_get_dec
 refine X_ (yG n 0 (by decide) (by lia)) ?_ rfl rfl
 repeat array_get_dec
 refine X_ (Jq n b h (by lia)) ?_ rfl rfl
 repeat array_get_dec
 rfl
noncomputable def Js:List Dat:=[.tup [.int 0,.int 0],.tup [.int 0,.int 0,.int 0,.int 0],.lst [.int 0,.int 0,.int 0],.non,.int 5,.str [48,58,48,45,48],.tup [],.tup [.bl true,.int 0,.int 0],.tup [.int 0,.bl true,.int 0],.tup [.int 0,.int 0,.bl false]]
noncomputable def CG(n far:Int):List Dat:=[.tup [.int (-1),.int 0,.int 0],.tup [.int (-1-far),.int 0,.int 0],.tup [.int (10 ^ 30+1+far),.int 0,.int 0],.tup [.int 0,.int n,.int 0],.tup [.int 0,.int 0,.int (n+far)],.tup [.int 0,.int (-1),.int 0]]
noncomputable def R5:List Dat:=[.tup [.int 0,.int 0,.int (-1)],.tup [.str [48],.int 0,.int 0],.tup [.int 0,.non,.int 0],.tup [.int 0,.int 0,.str [48]],.tup [.int 0,.tup [.int 0],.int 0],.tup [.int 0,.int 0,.lst [.int 0]],.bl true,.dct [] []]
noncomputable def Jt(n far:Int):List Dat:=Js++CG n far++R5
theorem R6:((UG 10).all fun n=>(Jt (n+1:Nat) 0).all fun x=>Mn (kJ [.int (n+1:Nat),x]))=true:=by decide +kernel
theorem DX(n:Nat)(n1:1<=n)(n10:n<=10)(far:Int)(h:0<=far):∀x∈Jt n far,kJ [.int (n:Nat),x]=some (.val (.bl false)):=fun x hx=>by
 have h0:=Vd.mp R6 (n-1) (U4.mpr (by lia));have en:n-1+1=n:=by lia
 rw[en]at h0;have h1:=fun y hy=>Fj (Vd.mp h0 y hy);unfold Jt at hx h1;rcases Uy.mp hx with hx | hx
 ·rcases Uy.mp hx with hx | hx
  ·exact h1 x (Va _ (Va _ hx))
  ·unfold CG at hx;simp only[Ui,VV,or_false]at hx;rcases hx with rfl | rfl | rfl | rfl | rfl | rfl
   ·exact yN _ _ _ _ (.inl (by decide))
   ·exact yN _ _ _ _ (.inl (by lia))
   ·exact yN _ _ _ _ (.inr (by unfold Z30;lia))
   ·exact h1 _ (Va _ (UD _ (by unfold CG;simp)))
   ·exact Jr _ _ (by lia) (by lia)
   ·exact h1 _ (Va _ (UD _ (by unfold CG;simp)))
 ·exact h1 x (UD _ hx)
theorem GG(n:Nat)(n1:1<=n)(n10:n<=10)(far num:Int)(h:0<=far):∃x,Fc [.int (n:Nat),.int far,.int num]=some (.val x)/\kJ [.int (n:Nat),x]=some (.val (.bl false)):=by
 obtain⟨m0,m1⟩:=cW num 24 (by decide);obtain⟨x,hx,ex⟩:=DU (Jt n far) (num % 24) m0 m1;refine⟨x,?_,DX n n1 n10 far h x hx⟩;apply Yt;unfold Fc
 (refine Dm.Yr ?_ rfl rfl;and_intros)
 refine Yo ⟨.nx [.sh (.int n),.sh (.int far),.sh (.int num),.ow (.lst Js)],rfl,?_⟩;refine Yo ⟨.nx [.sh (.int n),.sh (.int far),.sh (.int num),.ow (.lst (Js++CG n far))],rfl,?_⟩;refine Yo ⟨.nx [.sh (.int n),.sh (.int far),.sh (.int num),.ow (.lst (Jt n far))],rfl,?_⟩;refine YA (W_ (Yz rfl (W_ (U_ rfl (Yp (YF ?_ rfl rfl (by decide)))))));exact Yv (YJ rfl) rfl rfl ex
theorem Ng(p:Dat->Bool)(hl:xs.length<=1000)(h:∀x∈xs,kJ [.int (n:Nat),x]=some (.val (.bl (p x)))):T1 (jh (.int (n:Nat)) (.lst xs))=some (!(xs.all p),jh (.int (n:Nat)) (.lst xs)):=by
 have sz:1000<=SZ:=by decide
 refine YN (YY (YI (YC (Yu (U_ rfl (Yq (v:=.val (.bl true)) (Yw (YU ?_)) rfl rfl))))));refine YI (YC (YO (m_ (Zn id xs p Dat.bl (d:=.lst xs) ?_ rfl (by rw[List.map_id];rfl) rfl (by decide) (by lia) fun x hx=>?_))))
 ·refine V_ (Zv (fun b=>b) (xs:=xs.map p) ?_ rfl);exact Yw ⟨by rw[Yl];rfl,rfl⟩
 ·exact YD (m_ (U_ rfl (m_ (U_ rfl (V_ (X_ (h x hx) (Yy ⟨rfl,rfl⟩) rfl rfl))))))
theorem R7{s:FS}(h:Ws s ρ (fun x=>x=ρ1) (fun _ _=>False) (fun _=>False) (fun _=>False)):s ρ=some (.nx ρ1):=by
 obtain⟨o,e,q⟩:=h;cases o with
 |nx x=>cases q;exact e
 |ret r x=>exact q.elim
 |bk x=>exact q.elim
 |ct x=>exact q.elim
theorem Zw{D T:List Tie}{o:Option Dat}{K:RV->Prop}(nd:(D.map l3).Nodup)(so:(D.map l3).Pairwise fun a b=>lx b a=false)(e:∀t,t∈D↔t∈T)(hl:D.length<=75)(k:K (.new (bC D)))(ho:o=some (bC T)):Wg1 gf o K:=⟨_,_,ho,by
 have p:(D.map l3).Perm (gm (T.map l3)):=by obtain⟨d1,d2⟩:=Av (T.map l3);refine Jk nd d1 fun x=>?_;rw[d2,U0,U0];exact⟨fun⟨t,a,b⟩=>⟨t,(e t).mp a,b⟩,fun⟨t,a,b⟩=>⟨t,(e t).mpr a,b⟩⟩
 rw[Fg];unfold gf;dsimp only;rw[Au _ fun ns hn=>by obtain⟨t,_,rfl⟩:=U0.mp hn;exact List.cons_ne_nil _ _];dsimp only;rw[if_pos (by rw[<- p.length_eq,Ud];exact hl),Mi p so,<- Fg],k⟩
theorem Nh{T D:List Tie}(hT:T.length<=1000)(nd:(D.map l3).Nodup)(so:(D.map l3).Pairwise fun a b=>lx b a=false)(e:∀t,t∈D↔t∈T.map mq)(hl:D.length<=75):S2 (jh (.int (n:Nat)) (bC T))=some (.nx (yM (.int (n:Nat)) (bC T) (bC D))):=by
 have sz:1000<=SZ:=by decide
 refine R7 (YE (Yu (Zn eU T mq eU ?_ rfl rfl rfl (by decide) (by lia) (fun t ht=>?_))) (by decide))
 ·exact Zw nd so e hl (YL rfl (by trivial)) rfl
 ·exact YD (m_ (U_ rfl (V_ (YH (Dv t) (Yy ⟨rfl,rfl⟩) rfl rfl rfl rfl))))
theorem Ni{T D:List Tie}(b:Bool)(h:decide ((60:Int)<D.length)=b):T2 (yM (.int (n:Nat)) (bC T) (bC D))=some (b,yM (.int (n:Nat)) (bC T) (bC D)):=by refine YN (YC (W_ (YO (m_ (Yz rfl (V_ (Y4 (RP:=eU) (xs:=D) ?_ rfl)))))));refine Yp (Y9 (Yw ⟨?_,rfl⟩) rfl rfl);exact h
noncomputable def mAt(D:List Tie)(a:Nat):Int:=((D[a]?).map (·.m)).getD 0
noncomputable abbrev qy(D:List Tie)(a:Nat):Env:=[.sh (bC D),.sh (.int (a:Nat))]
noncomputable abbrev tC:FT:=tV (e2 gEq (e2 gIx (e2 gIx (eV 0) (e2 dG (eV 1) (eC (.int 1)))) (eC (.int 0))) (e2 gIx (e2 gIx (eV 0) (eV 1)) (eC (.int 0))))
theorem kF(h:a<D.length):mAt D a=D[a].m:=by unfold mAt;rw[Uz h];rfl
theorem Bm(h:a<D.length):gIx (bC D) (.int (a:Nat))=some (.val (eU D[a])):=by show (atI (D.map eU) a).map RV.val=_;rw[Dm.Bb eU D (a:Nat) (by lia) (by lia)];rfl
theorem Nj(h1:1<=a)(h2:a<D.length):tC (qy D a)=some (decide (mAt D (a-1)=mAt D a),qy D a):=by
 have e0:((a:Int)-1)=((a-1:Nat):Int):=by lia
 have g1:=Bm (D:=D) (a:=a-1) (by lia);have g2:=Bm (D:=D) (a:=a) h2;refine YN (YC (W_ (W_ (W_ (U_ rfl (W_ (U_ rfl (Yp (YQ ?_ rfl rfl)))))))));rw[e0];refine Yv ?_ rfl rfl g1;refine Yp (Yv (v:=.int (D[a-1]).m) ?_ rfl rfl rfl);refine W_ (W_ (U_ rfl (U_ rfl (Yv ?_ rfl rfl g2))));refine Yp (Yv (v:=.int (D[a]).m) ?_ rfl rfl rfl);refine YM (Yw ⟨?_,rfl⟩) rfl rfl;rw[kF (by lia),kF h2]
theorem R8(h2:a<D.length):e2 gIx (e2 gIx (eV 0) (eV 1)) (eC (.int 0)) (qy D a)=some (.val (.int (mAt D a)),qy D a):=by have g2:=Bm (D:=D) (a:=a) h2;refine Y7 (W_ (W_ (U_ rfl (U_ rfl (Yv ?_ rfl rfl g2)))));refine Yp (Yv (v:=.int (D[a]).m) ?_ rfl rfl rfl);rw[kF h2];exact⟨rfl,rfl⟩
theorem GH(h1:bd d ρ=some ρ1)(h2:body ρ1=none):kD bd body (d::r) ρ=none:=by unfold kD;rw[h1];dsimp only;rw[h2]
theorem Mp{ρ ρ1 ρ2:Env}(h1:bd d ρ=some ρ1)(h2:body ρ1=some (.nx ρ2)):kD bd body (d::r) ρ=kD bd body r ρ2:=by rw[kD.eq_def];dsimp only;rw[h1];dsimp only;rw[h2]
noncomputable abbrev rC(i:Int):Env->Option Env:=rIf tC (vc (e2 gIx (e2 gIx (eV 0) (eV 1)) (eC (.int 0))) i) rNo
theorem DY(hq:q<D.length)(he:mAt D (q-1)=mAt D q)(i:Int):∀(d s:Nat) (k:Nat) (c:Cell),q=s+d->1<=s->s+k=D.length->(∀a,s<=a->a<q->mAt D (a-1)≠mAt D a) ->
  (qJ (bN 1) qK (rC i) (ups (s:Nat) k) [.sh (bC D),c]).isSome=decide (i=mAt D q)/\kD (bN 1) qK (ups (s:Nat) k) [.sh (bC D),c]=none
 |0,s,0,c,h1,h2,h3,_=>by lia
 |0,s,k+1,c,h1,h2,h3,h4=>by
  have hs:s=q:=by lia
  subst hs;have t:=Nj h2 hq;rw[decide_eq_true he]at t;have hb:qK (qy D s)=none:=Mj t;have hr:rC i (qy D s)=if mAt D s=i then some (qy D s) else none:=by refine(Fi t).trans ?_;unfold vc;rw[R8 hq]
  rw[t8];constructor
  ·unfold qJ;show ((match rC i (qy D s) with
    |some ρ2=>some ρ2
    |none=>match qK (qy D s) with
     |some (.nx ρ2)=>qJ (bN 1) qK (rC i) (ups ((s:Int)+1) k) ρ2
     |_=>none):Option Env).isSome=_
   rw[hr,hb];by_cases z:mAt D s=i
   ·rw[if_pos z,decide_eq_true z.symm];rfl
   ·rw[if_neg z,decide_eq_false (Vl z)];rfl
  ·exact GH (ρ1:=qy D s) rfl hb
 |d+1,s,0,c,h1,h2,h3,_=>by lia
 |d+1,s,k+1,c,h1,h2,h3,h4=>by
  have t:=Nj (D:=D) (a:=s) h2 (by lia);rw[decide_eq_false (h4 s (Nat.le_refl _) (by lia))]at t;have hb:qK (qy D s)=some (.nx (qy D s)):=CA t;have hr:rC i (qy D s)=none:=CB t;obtain⟨r1,r2⟩:=DY hq he i d (s+1) k (.sh (.int (s:Nat))) (by lia) (by lia) (by lia) (fun a a1 a2=>h4 a (by lia) a2);have es:((s+1:Nat):Int)=(s:Int)+1:=by lia
  rw[es]at r1 r2;rw[t8];constructor
  ·unfold qJ;show ((match rC i (qy D s) with
    |some ρ2=>some ρ2
    |none=>match qK (qy D s) with
     |some (.nx ρ2)=>qJ (bN 1) qK (rC i) (ups ((s:Int)+1) k) ρ2
     |_=>none):Option Env).isSome=_
   rw[hr,hb];exact r1
  ·exact(Mp (ρ1:=qy D s) rfl hb).trans r2
theorem R9(hl:D.length<=1000)(h1:1<=D.length):iR2 (eC (.int 1)) (eB ck [(eV 0)]) [.sh (bC D),.un]=some (ups 1 (D.length-1),[.sh (bC D),.un]):=by
 have e:eB ck [(eV 0)] [.sh (bC D),.un]=some (.val (.int (D.length:Nat)),[.sh (bC D),.un]):=Y7 (YO (m_ (U_ rfl (V_ (Y4 (RP:=eU) (xs:=D) ⟨rfl,rfl⟩ rfl)))));unfold iR2;show (match eB ck [(eV 0)] [.sh (bC D),.un] with
  |some (.val (.int j),ρ2)=>_
  |_=>none)=_
 rw[e];have h3:(((D.length:Nat):Int)-1).toNat=D.length-1:=by lia
 dsimp only;rw[Ud,if_pos (by unfold BIG;lia),h3]
theorem Jv(hl:D.length<=1000)(hq:q<D.length)(h1:1<=q)(he:mAt D (q-1)=mAt D q)(h4:∀a,1<=a->a<q->mAt D (a-1)≠mAt D a):Mf [bC D]=none/\∀i,cE i [bC D]=decide (i=mAt D q):=by
 have it:=R9 hl (by lia:1<=D.length);constructor
 ·refine qv ?_;show dc _ _ _ [.sh (bC D),.un]=none;unfold dc;rw[it];exact(DY hq he 0 (q-1) 1 (D.length-1) .un (by lia) (by decide) (by lia) h4).2
 ·intro i;refine(lE rfl).trans ?_;show (Gn _ _ _ _ [.sh (bC D),.un]).isSome=_;unfold Gn;rw[it];exact(DY hq he i (q-1) 1 (D.length-1) .un (by lia) (by decide) (by lia) h4).1
theorem Jw{P:Nat->Prop}:∀q,P q->∃q,P q/\∀a,a<q->¬P a:=fun q=>by
 induction q using Nat.strongRecOn with
 |ind q ih=>
  intro h;by_cases z:∃a,a<q/\P a
  ·obtain⟨a,h1,h2⟩:=z;exact ih a h1 h2
  ·exact⟨q,h,fun a ha hp=>z ⟨a,ha,hp⟩⟩
theorem Pq(so:(D.map l3).Pairwise fun a b=>lx b a=false){i j:Nat}(hij:i<=j)(hj:j<D.length):mAt D i<=mAt D j:=by
 rw[kF hj,kF (by lia)];by_cases e:i=j
 ·subst e;exact Int.le_refl _
 have h:=Vj.mp so i j (by rw[Ud];lia) (by rw[Ud];lia) (by lia);rw[Xf,Xf]at h;unfold l3 lx at h;by_cases z:D[j].m=D[i].m
 ·lia
 ·rw[if_neg z]at h;have:=of_decide_eq_false h
  lia
theorem CH(so:(D.map l3).Pairwise fun a b=>lx b a=false)(nd:(D.map l3).Nodup){ms:List Int}{m0:Int}(hmin:∀m∈ms,m0<=m)(h1:∀t∈D,∀u∈D,t≠u->t.m=u.m->t.m∈ms){t u:Tie}(ht:t∈D)(hu:u∈D)(ne:t≠u)(e1:t.m=m0)(e2:u.m=m0) :
  ∃q,q<D.length/\1<=q/\mAt D (q-1)=mAt D q/\(∀a,1<=a->a<q->mAt D (a-1)≠mAt D a)/\mAt D q=m0:=by
 obtain⟨i,hi,rfl⟩:=Xl.mp ht;obtain⟨j,hj,rfl⟩:=Xl.mp hu;have key:∀i j:Nat,i<j->(hj:j<D.length)->mAt D i=m0->mAt D j=m0->∃q,q<D.length/\1<=q/\mAt D (q-1)=mAt D q/\(∀a,1<=a->a<q->mAt D (a-1)≠mAt D a)/\mAt D q=m0:=fun i j hij hj ei ej=>by
  have c:1<=i+1/\i+1<D.length/\mAt D (i+1-1)=mAt D (i+1):=by
   refine⟨by lia,by lia,?_⟩;have a1:=Pq so (i:=i) (j:=i+1) (by lia) (by lia);have a2:=Pq so (i:=i+1) (j:=j) (by lia) hj;rw[Vw]
   lia
  obtain⟨q,⟨q1,q2,q3⟩,q4⟩:=Jw (P:=fun q=>1<=q/\q<D.length/\mAt D (q-1)=mAt D q) (i+1) c;refine⟨q,q2,q1,q3,fun a a1 a2 z=>q4 a a2 ⟨a1,by lia,z⟩,?_⟩;have le:q<=i+1:=by
   by_cases z:q<=i+1
   ·exact z
   ·exact absurd c (q4 (i+1) (by lia))
  have b1:=Pq so (i:=q) (j:=i+1) le c.2.1;have b2:mAt D (i+1)=m0:=by rw[<- c.2.2,Vw];exact ei
  have b3:m0<=mAt D q:=by
   refine hmin _ ?_;have h:=h1 D[q-1] (WD (by lia)) D[q] (WD q2) (fun z=>?_) (by rw[<- kF,<- kF];exact q3)
   ·rw[<- q3,kF (by lia)];exact h
   ·have:=Vj.mp nd (q-1) q (by rw[Ud];lia) (by rw[Ud];lia) (by lia);rw[Xf,Xf]at this;exact this (congrArg l3 z)
  lia
 have di:i≠j:=fun z=>ne (by subst z;rfl);rcases Nat.lt_or_gt_of_ne di with h | h
 ·exact key i j h hj (by rw[kF hi];exact e1) (by rw[kF hj];exact e2)
 ·exact key j i h hi (by rw[kF hj];exact e2) (by rw[kF hi];exact e1)
theorem Fl{T:List Tie}(hT:Tok n T):T1 (jh (.int (n:Nat)) (bC T))=some (false,jh (.int (n:Nat)) (bC T)):=by
 have h:=Ng (n:=n) (xs:=T.map eU) (fun _=>true) (by rw[Ud];exact hT.len) fun x hx=>by obtain⟨t,ht,rfl⟩:=U0.mp hx;obtain⟨h1,h2,h3,h4,h5,h6⟩:=hT.ok t ht;exact vh n t h1 h2 h3 h4 h5 h6
 refine h.trans ?_;rw[Vd.mpr fun _ _=>rfl];rfl
theorem Pr{x:Dat}(hl:xs.length<=1000)(h:∀y∈xs,y=x\/kJ [.int (n:Nat),y]=some (.val (.bl true)))(hx:x∈xs)(hb:kJ [.int (n:Nat),x]=some (.val (.bl false))):T1 (jh (.int (n:Nat)) (.lst xs))=some (true,jh (.int (n:Nat)) (.lst xs)):=by
 have h0:=Ng (n:=n) (xs:=xs) (fun y=>Pn (kJ [.int (n:Nat),y])) hl fun y hy=>by
  rcases h y hy with rfl | e
  ·rw[hb];rfl
  ·rw[e];rfl
 refine h0.trans ?_;have:(xs.all fun y=>Pn (kJ [.int (n:Nat),y]))=false:=by rw[List.all_eq_false];exact⟨x,hx,by rw[hb];simp[Pn]⟩
 rw[this];rfl
theorem Mq{n x:Dat}(h:tK isL x=some (.val (.bl false))):T1 (jh n x)=some (true,jh n x):=
 YN (YY (YI (YC (Yu (U_ rfl (Yq (v:=.val (.bl false)) (Yw (Zm ⟨rfl,rfl⟩)) rfl h))))))
theorem ua(n:Nat)(n1:1<=n)(n10:n<=10):lD [.int (n:Nat)]=some (.val (.bl true)):=by
 apply Yt;unfold lD
 (refine Dm.Yr ?_ rfl rfl;and_intros)
 exact YA (YD (m_ (U_ rfl (m_ (Yp (m_ (Yp (V_ (X_ (qu n 1 10 (by lia) (by lia)) rfl rfl rfl)))))))))
noncomputable def nP(k:Nat):List Tie:=(UG k).map fun i:Nat=>⟨(i:Int),0,0⟩
theorem Aw(k:Nat):Gz (nP k):=by unfold Gz nP;rw[V6];exact(List.pairwise_lt_range).imp fun {a b} h=>by show ((a:Nat):Int)<((b:Nat):Int);lia
theorem CI{k:Nat}{t:Tie}(h:t∈nP k):0<=t.m/\t.m<k/\t.a=0/\t.b=0:=by obtain⟨i,hi,rfl⟩:=U0.mp h;have:=U4.mp hi;exact⟨by show (0:Int)<=(i:Nat);lia,by show ((i:Nat):Int)<k;lia,rfl,rfl⟩
theorem yO(k:Nat):(nP k).length=k:=by simp[nP]
theorem yP{α:Type}[DecidableEq α]:∀{l m:List α},l.Nodup->(∀x∈l,x∈m)->l.length<=m.length
 |[],m,_,_=>U6 _
 |a::l,m,h,s=>by
  obtain⟨h1,h2⟩:=VI.mp h;have ha:=s a (Uj ..);have:=yP (m:=m.erase a) h2 fun x hx=>by have ne:x≠a:=fun z=>h1 (z▸hx);exact(List.mem_erase_of_ne ne).mpr (s x (Ue _ hx))
  rw[List.length_erase_of_mem ha]at this;have:0<m.length:=List.length_pos_of_mem ha;rw[Ub];lia
noncomputable def back(l:List Int):Tie:=⟨l.getD 0 0,l.getD 1 0,l.getD 2 0⟩
theorem GI(T:List Tie):∃D:List Tie,(D.map l3).Nodup/\((D.map l3).Pairwise fun a b=>lx b a=false)/\(∀t,t∈D↔t∈T)/\D.length<=T.length:=by
 obtain⟨d1,d2⟩:=Av (T.map l3);have pm:(l9 lx (gm (T.map l3))).Perm (gm (T.map l3)):=mQ _ _;have mem:∀l∈l9 lx (gm (T.map l3)),∃t∈T,l3 t=l:=fun l hl=>U0.mp ((d2 l).mp (pm.mem_iff.mp hl));have eq:((l9 lx (gm (T.map l3))).map back).map l3=l9 lx (gm (T.map l3)):=by
  rw[Wf];have:∀l∈l9 lx (gm (T.map l3)),(l3∘back) l=l:=fun l hl=>by obtain⟨t,_,rfl⟩:=mem l hl;rfl
  rw[Wg this,List.map_id']
 refine⟨(l9 lx (gm (T.map l3))).map back,by rw[eq];exact pm.nodup_iff.mpr d1,by rw[eq];exact As _,fun t=>?_,?_⟩
 ·constructor
  ·intro h;obtain⟨l,hl,rfl⟩:=U0.mp h;obtain⟨u,hu,rfl⟩:=mem l hl;exact hu
  ·intro h;exact U0.mpr ⟨l3 t,pm.mem_iff.mpr ((d2 _).mpr (U0.mpr ⟨t,h,rfl⟩)),rfl⟩
 ·rw[Ud,pm.length_eq];refine Nat.le_trans (yP d1 fun x hx=>(d2 x).mp hx) (by rw[Ud];exact Nat.le_refl _)
end
section
variable(x0 x1 x2 x3 x4 x5 x6 x7 x8 x9 x10:Nat)(hn:(CD x0 x1 x2 x3 x4 x5 x6 x7 x8 x9 x10).Nodup)
include hn
theorem Bo(n:Nat)(n1:1<=n)(n10:n<=10)(k:Nat)(k1:61<=k)(k2:k<=70)(mo:Int):aT x0 x1 x2 x3 x4 x5 x6 x7 x8 x9 x10 [.int (n:Nat),bC (nP k),.int 1,.int mo]=some (.val (.bl true)):=by
 have tok:Tok n (nP k):=⟨fun t ht=>by
  obtain⟨a,b,c,d⟩:=CI ht;unfold Z30
  lia,by rw[yO];lia⟩
 have eo:(nP k).map mq=nP k:=by have:∀t∈nP k,mq t=t:=fun t ht=>Cz (by have:=CI ht;lia);rw[Wg this,List.map_id']
 refine vn x0 x1 x2 x3 x4 x5 x6 x7 x8 x9 x10 hn (Pp _ _ (D:=bC (nP k)) (ua n n1 n10) (je n (by lia) (by lia)) (Fl tok) (Nh tok.len (Aw k).nodup (Aw k).sorted (fun t=>by rw[eo]) (by rw[yO];lia)) (Ni true (decide_eq_true (by rw[yO];lia))))
theorem oJ(n:Nat)(n1:1<=n)(n10:n<=10){xs:List Dat}{x:Dat}(mo:Int)(hl:xs.length<=1000)(h:∀y∈xs,y=x\/kJ [.int (n:Nat),y]=some (.val (.bl true)))(hx:x∈xs)(hb:kJ [.int (n:Nat),x]=some (.val (.bl false))) :
  aT x0 x1 x2 x3 x4 x5 x6 x7 x8 x9 x10 [.int (n:Nat),.lst xs,.int 1,.int mo]=some (.val (.bl true)):=
 vn x0 x1 x2 x3 x4 x5 x6 x7 x8 x9 x10 hn (Jm _ _ (ua n n1 n10) (je n (by lia) (by lia)) (Pr hl h hx hb))
theorem zS(n:Nat)(n1:1<=n)(n10:n<=10){x:Dat}(mo:Int)(h:tK isL x=some (.val (.bl false))):aT x0 x1 x2 x3 x4 x5 x6 x7 x8 x9 x10 [.int (n:Nat),x,.int 1,.int mo]=some (.val (.bl true)):=
 vn x0 x1 x2 x3 x4 x5 x6 x7 x8 x9 x10 hn (Jm _ _ (ua n n1 n10) (je n (by lia) (by lia)) (Mq h))
theorem zT(n:Nat)(n1:1<=n)(n10:n<=10){T:List Tie}(hT:Tok n T)(hl:T.length<=60){ms:List Int}{m0:Int}(hmin:∀m∈ms,m0<=m)(h1:∀t∈T.map mq,∀u∈T.map mq,t≠u->t.m=u.m->t.m∈ms){t u:Tie}(ht:t∈T.map mq)(hu:u∈T.map mq)(ne:t≠u)(e1:t.m=m0)(e2:u.m=m0) :
  aT x0 x1 x2 x3 x4 x5 x6 x7 x8 x9 x10 [.int (n:Nat),bC T,.int 2,.int m0]=some (.val (.bl true)):=by
 obtain⟨D,nd,so,me,dl⟩:=GI (T.map mq);rw[Ud]at dl;obtain⟨q,hq,q1,he,hb,e0⟩:=CH so nd hmin (fun t ht u hu=>h1 t ((me t).mp ht) u ((me u).mp hu)) ((me t).mpr ht) ((me u).mpr hu) ne e1 e2;obtain⟨c1,c2⟩:=Jv (by lia) hq q1 he hb;rw[e0]at c2;exact GB x0 x1 x2 x3 x4 x5 x6 x7 x8 x9 x10 hn (R3 _ _ (D:=bC D) (ua n n1 n10) (je n (by lia) (by lia)) (Fl hT) (Nh hT.len nd so me (by lia)) (Ni false (decide_eq_false (by lia))) c1 c2)
end
theorem Zb{it:FI}{ρ:Env}{ds:List Dat}(h:Wi it ρ fun v ρ'=>v=ds/\ρ'=ρ):it ρ=some (ds,ρ):=by obtain⟨v,ρ',e,rfl,rfl⟩:=h;exact e
theorem vt(k:Nat):ups 0 k=(UG k).map fun i:Nat=>Dat.int (i:Int):=by unfold ups;refine Wg fun i _=>?_;rw[Int.zero_add]
theorem Mr(n num:Int):∃k:Nat,61<=k/\k<=70/\Fd [.int n,.int num]=some (.new (bC (nP k))):=by
 obtain⟨m0,m1⟩:=cW num 10 (by decide);refine⟨(61+num % 10).toNat,by lia,by lia,?_⟩;have it:iR1 (e2 bh (eC (.int 61)) (e2 bu (eV 1) (eC (.int 10)))) [.sh (.int n),.sh (.int num)]=some ((UG (61+num % 10).toNat).map fun i:Nat=>Dat.int (i:Int),[.sh (.int n),.sh (.int num)]):=by
  refine Zb (Y3 (W_ (Yp (W_ (U_ rfl (Yp (YF (YZ (Cs.mk ⟨⟨vt _,rfl⟩,?_⟩) rfl rfl) rfl rfl (by decide))))))));unfold BIG
  lia
 apply Yt;unfold Fd
 (refine Dm.Yr ?_ rfl rfl;and_intros)
 refine YA (Za (fun i:Nat=>Dat.int (i:Int)) (UG (61+num % 10).toNat) (fun i:Nat=>(⟨(i:Int),0,0⟩:Tie)) eU (ρ1:=[.sh (.int n),.sh (.int num)]) ?_ it rfl (by decide) (by rw[W7];exact Nat.le_trans (by lia:_<=1000) (by decide)) fun i _=>?_)
 ·exact Y_ rfl
 ·exact Y8 (m_ (U_ rfl (m_ (Yp (m_ (Yp (V_ (YG (Yy ⟨rfl,rfl⟩) rfl rfl (by exact U8 rfl)))))))))
structure Cl(n:Nat)(r E:List Tie)(ms:List Int):Prop where
 ms_:E.map (·.m)=ms
 tok:∀e∈E,0<=e.m/\e.m<=Hi/\0<=e.a/\e.a<n/\0<=e.b/\e.b<n
 two:∀e∈E,∃t∈r,t.m=e.m/\t≠mq e
theorem Good.DZ{n:Int}:∀{r:List Tie} {lo:Int},Good n lo r->∀t∈r,lo<=t.m/\0<=t.a/\t.a<=t.b/\t.b<n
 |[],_,_,t,h=>nomatch h
 |u::r,lo,g,t,h=>by
  obtain⟨g1,g2,g3,g4,g5⟩:=g;rcases Ui.mp h with rfl | h
  ·exact⟨g1,g2,g3,g4⟩
  ·obtain⟨a,b⟩:=Good.DZ g5 t h;exact⟨by lia,b⟩
theorem Bp(n:Nat)(n2:2<=n)(n10:n<=10)(r:List Tie)(hr:Good n 0 r)(hm:∀t∈r,t.m<=Hi)(r1:1<=r.length)(rl:r.length<=60)(nums:Dat)(num:Int)(E:List Tie)(ms:List Int)(hE:E.length<=10)(h:Cl n r E ms)(c6 c7 c8:Cell){N:Env->Prop}{R:RV->Env->Prop}{B C:Env->Prop}
  (nx:∀(E':List Tie) (ms':List Int) (c6 c7 c8:Cell),E'.length<=E.length+1->Cl n r E' ms'->ms'≠[]->N [.sh (.int (n:Nat)),.sh (bC r),.sh nums,.ow (bC (r++E')),.ow (.lst (ms'.map Dat.int)),.sh (.int num),c6,c7,c8]) :
  Ws DO [.sh (.int (n:Nat)),.sh (bC r),.sh nums,.ow (bC (r++E)),.ow (.lst (ms.map Dat.int)),.sh (.int num),c6,c7,c8] N R B C:=by
 obtain⟨m0,m1⟩:=cW num r.length (by lia);have hi:(num % (r.length:Int)).toNat<r.length:=by lia
 have ei:num % (r.length:Int)=(((num % (r.length:Int)).toNat:Nat):Int):=by lia
 have gi:=Bm hi;have tm:=WD hi;have bd:=Good.DZ hr _ tm;have bm:=hm _ tm
 generalize r[(num % (r.length:Int)).toNat]=t at gi tm bd bm
 unfold DO;refine Yo (ZA (W_ (U_ rfl (W_ (U_ rfl (YO (m_ (U_ rfl (V_ (Y4 (RP:=eU) (xs:=r) ?_ rfl))))))))));refine YF ?_ rfl rfl (by lia);rw[ei];refine Yv (Yy ⟨_,_,rfl,rfl,?_⟩) rfl rfl gi;have len:(r++E).length<SZ:=by rw[UO];exact UJ (by lia:_<1000) (by decide)
 have lem:ms.length<SZ:=by rw[<- h.ms_,Ud];exact UJ (by lia:_<1000) (by decide)
 refine YR (Zg (YC (W_ (U_ rfl (Yp (Y9 (Yw (Zd (decide_eq_true (by lia)) ?_)) rfl rfl))))));refine YC (W_ (U_ rfl (Yz rfl (Zy (xs:=ms) (Yw ⟨fun g=>?_,fun g=>YW (nx E ms _ _ _ (by lia) h fun z=>?_)⟩) rfl rfl))))
 ·refine Yo (YX (U_ rfl (Yy ⟨_,_,rfl,rfl,?_,by rw[Ud];exact lem⟩)) rfl);have R1:∀ e:Tie,e.m=t.m→0≤e.a→e.a<n→0≤e.b→e.b<n→t≠mq e→Cl n r (E++[e]) (ms++[t.m]):=fun e e1 e2 e3 e4 e5 ne=>⟨by rw [Xp,h.ms_];simp [e1],fun x hx=>by
    rcases Uy.mp hx with hx | hx
    ·exact h.tok x hx
    ·rw[UK.mp hx,e1];exact⟨bd.1,bm,e2,e3,e4,e5⟩,fun x hx=>by
    rcases Uy.mp hx with hx | hx
    ·exact h.two x hx
    ·rw[UK.mp hx];exact⟨t,tm,e1.symm,ne⟩⟩
  refine YR (YC (W_ (U_ rfl (U_ rfl (YM (Yw (Zf (fun q=>?_) fun q=>?_)) rfl rfl)))))
  ·obtain⟨a0,a1⟩:=cW (t.a+1) n (by lia);refine YX (Y8 (m_ (U_ rfl (m_ (U_ rfl (m_ (W_ (W_ (U_ rfl (Yp (YZ ?_ rfl rfl))))))))))) rfl;refine U_ rfl (YF ?_ rfl rfl (by lia));refine V_ (YG ?_ rfl rfl (by exact U8 rfl));refine Yy ⟨_,_,rfl,rfl,?_,by rw[Ud];exact len⟩;have c:=R1 ⟨t.m,t.a,(t.a+1) % n⟩ rfl bd.2.1 (by show t.a<n;lia) a0 a1 fun z=>by
    have z1:=congrArg Tie.a z;have z2:=congrArg Tie.b z;unfold mq at z1 z2;dsimp only at z1 z2;have ne:(t.a+1) % (n:Int)≠t.a:=fun w=>by
     by_cases u:t.a+1<n
     ·rw[Int.emod_eq_of_lt (by lia) u]at w;lia
     ·have:t.a+1=n:=by lia
      rw[this,Int.emod_self]at w;lia
    split at z1<;>split at z2<;>lia
   have:=nx (E++[⟨t.m,t.a,(t.a+1) % n⟩]) (ms++[t.m]) (.sh (.int t.m)) (.sh (.int t.a)) (.sh (.int t.b)) (by simp) c (by simp)
   simpa [bC,eU] using this
  ·refine YX (Y8 (m_ (U_ rfl (m_ (U_ rfl (m_ (U_ rfl (V_ (YG ?_ rfl rfl (by exact U8 rfl)))))))))) rfl;refine Yy ⟨_,_,rfl,rfl,?_,by rw[Ud];exact len⟩;have c:=R1 ⟨t.m,t.a,t.a⟩ rfl bd.2.1 (by show t.a<n;lia) bd.2.1 (by show t.a<n;lia) fun z=>by
    have z2:=congrArg Tie.b z;unfold mq at z2;dsimp only at z2;rw[if_neg (by lia)]at z2;exact q z2.symm
   have:=nx (E++[⟨t.m,t.a,t.a⟩]) (ms++[t.m]) (.sh (.int t.m)) (.sh (.int t.a)) (.sh (.int t.b)) (by simp) c (by simp)
   simpa [bC,eU] using this
 ·subst z;simp at g
theorem D0(n:Nat)(n2:2<=n)(n10:n<=10)(r:List Tie)(hr:Good n 0 r)(hm:∀t∈r,t.m<=Hi)(r1:1<=r.length)(rl:r.length<=60)(nums:List Int)(h2:nums.length=2) :
  ∃(E:List Tie) (ms:List Int),Cv [.int (n:Nat),bC r,.lst (nums.map Dat.int)]=some (.val (.tup [bC (r++E),.lst (ms.map Dat.int)]))/\Cl n r E ms/\ms≠[]/\E.length<=2:=by
 suffices hh:Wr (Cv [.int (n:Nat),bC r,.lst (nums.map Dat.int)]) fun v=>∃(E:List Tie) (ms:List Int),v=.val (.tup [bC (r++E),.lst (ms.map Dat.int)])/\Cl n r E ms/\ms≠[]/\E.length<=2 by obtain⟨v,h1,E,ms,rfl,q⟩:=hh;exact⟨E,ms,h1,q⟩
 unfold Cv
 (refine Dm.Yr ?_ rfl rfl;and_intros)
 refine Yo (YE (YO (m_ (U_ rfl (V_ (Zc ?_ rfl))))) (by decide));refine YL ?_ (by trivial);refine Yo (YE (Y0 (V_ (YG (YL ?_ (by trivial)) rfl rfl (by decide)))) (by decide));refine Yo (Y6 (Zu (U_ rfl (Yy ⟨_,rfl,?_⟩))));refine Y5 Dat.int _ _ nums _ _ _ _ _ (fun p q ρ=>∃(E:List Tie) (ms:List Int) (c5 c6 c7 c8:Cell),ρ=[.sh (.int (n:Nat)),.sh (bC r),.sh (.lst (nums.map Dat.int)),.ow (bC (r++E)),.ow (.lst (ms.map Dat.int)),c5,c6,c7,c8]/\Cl n r E ms/\(p≠[]->ms≠[])/\E.length<=p.length) ?_ ?_ ?_
 ·exact⟨[],[],_,_,_,_,by rw[U3];rfl,⟨rfl,fun e he=>(nomatch he),fun e he=>(nomatch he)⟩,fun z=>absurd rfl z,Nat.le_refl _⟩
 ·rintro p i q ρ e ⟨E,ms,c5,c6,c7,c8,rfl,hc,hp,hl⟩;refine Dm.Bc rfl (by trivial) ?_;have pl:p.length<=2:=by
   have:=congrArg List.length e;rw[UO,Ub,h2]at this
   lia
  refine Bp n n2 n10 r hr hm r1 rl _ i E ms (by lia) hc _ _ _ fun E' ms' c6 c7 c8 l c ne=>?_;exact⟨E',ms',_,_,_,_,rfl,c,fun _=>ne,by rw[UO];show E'.length<=p.length+1;lia⟩
 ·rintro ρ ⟨E,ms,c5,c6,c7,c8,rfl,hc,hp,hl⟩;refine YA (Y8 (m_ (Yz rfl (m_ (Yz rfl (V_ (YG ?_ rfl rfl (by exact U8 rfl))))))));exact YJ ⟨E,ms,rfl,hc,hp (fun z=>by rw[z]at h2;cases h2),by lia⟩
theorem Good.one{n:Int}:∀{r:List Tie} {lo:Int},Good n lo r->∀t∈r,∀u∈r,t.m=u.m->t=u
 |[],_,_,t,h,_,_,_=>nomatch h
 |v::r,lo,g,t,ht,u,hu,e=>by
  obtain⟨g1,g2,g3,g4,g5⟩:=g;rcases Ui.mp ht with a | a
  ·rcases Ui.mp hu with b | b
   ·rw[a,b]
   ·have:=(Good.DZ g5 u b).1;rw[a]at e
    lia
  ·rcases Ui.mp hu with b | b
   ·have:=(Good.DZ g5 t a).1;rw[b]at e
    lia
   ·exact Good.one g5 t a u b e
section
variable(x0 x1 x2 x3 x4 x5 x6 x7 x8 x9 x10:Nat)(hn:(CD x0 x1 x2 x3 x4 x5 x6 x7 x8 x9 x10).Nodup)
include hn
theorem yQ(n:Nat)(n1:1<=n)(n10:n<=10){r E T:List Tie}{ms:List Int}(hr:Good n 0 r)(hm:∀t∈r,t.m<=Hi)(hHi:Hi<=Z30)(h:Cl n r E ms)(eT:∀t,t∈T↔t∈r++E)(hl:T.length<=60){m0:Int}(h0:m0∈ms)(hmin:∀m∈ms,m0<=m) :
  aT x0 x1 x2 x3 x4 x5 x6 x7 x8 x9 x10 [.int (n:Nat),bC T,.int 2,.int m0]=some (.val (.bl true)):=by
 have tok:Tok n T:=⟨fun t ht=>by
  rcases Uy.mp ((eT t).mp ht) with h1 | h1
  ·have a:=Good.DZ hr t h1;have b:=hm t h1
   lia
  ·have a:=h.tok t h1
   lia,by lia⟩
 have om:∀t∈r,mq t=t:=fun t ht=>Cz (Good.DZ hr t ht).2.2.1;have mem:∀t,t∈T.map mq↔t∈r\/∃e∈E,mq e=t:=fun t=>by
  rw[U0];constructor
  ·rintro⟨u,hu,rfl⟩;rcases Uy.mp ((eT u).mp hu) with h1 | h1
   ·left;rw[om u h1];exact h1
   ·exact .inr ⟨u,h1,rfl⟩
  ·rintro(h1 | ⟨e,he,rfl⟩)
   ·exact⟨t,(eT t).mpr (Va _ h1),om t h1⟩
   ·exact⟨e,(eT e).mpr (UD _ he),rfl⟩
 rw[<- h.ms_]at h0;obtain⟨e,he,rfl⟩:=U0.mp h0;obtain⟨t,ht,tm,ne⟩:=h.two e he;refine zT x0 x1 x2 x3 x4 x5 x6 x7 x8 x9 x10 hn n n1 n10 tok hl hmin (fun t ht u hu ne em=>?_) ((mem t).mpr (.inl ht)) ((mem (mq e)).mpr (.inr ⟨e,he,rfl⟩)) ne tm rfl;rcases (mem t).mp ht with h1 | ⟨e',he',rfl⟩
 ·rcases (mem u).mp hu with h2 | ⟨e',he',rfl⟩
  ·exact absurd (Good.one hr t h1 u h2 em) ne
  ·rw[em,<- h.ms_];exact U0.mpr ⟨e',he',rfl⟩
 ·rw[<- h.ms_];exact U0.mpr ⟨e',he',rfl⟩
end
section
variable(x0 x1 x2 x3 x4 x5 x6 x7 x8 x9 x10:Nat)(hn:(CD x0 x1 x2 x3 x4 x5 x6 x7 x8 x9 x10).Nodup)
noncomputable abbrev yR:List Dat:=[.exc x0,.exc x1,.cz x2 7,.exc x3,.exc x4,.exc x5,.exc x6,.exc x7,.exc x8,.exc x9,.exc x10]
include hn
theorem Ms:∀k:Nat,k<11->∃e,gIx (.lst (yR x0 x1 x2 x3 x4 x5 x6 x7 x8 x9 x10)) (.int (k:Nat))=some (.val e)/\Isx (CD x0 x1 x2 x3 x4 x5 x6 x7 x8 x9 x10) e k
 |0,_=>⟨.exc x0,rfl,nN hn rfl⟩
 |1,_=>⟨.exc x1,rfl,nN hn rfl⟩
 |2,_=>⟨.cz x2 7,rfl,Nd hn rfl⟩
 |3,_=>⟨.exc x3,rfl,nN hn rfl⟩
 |4,_=>⟨.exc x4,rfl,nN hn rfl⟩
 |5,_=>⟨.exc x5,rfl,nN hn rfl⟩
 |6,_=>⟨.exc x6,rfl,nN hn rfl⟩
 |7,_=>⟨.exc x7,rfl,nN hn rfl⟩
 |8,_=>⟨.exc x8,rfl,nN hn rfl⟩
 |9,_=>⟨.exc x9,rfl,nN hn rfl⟩
 |10,_=>⟨.exc x10,rfl,nN hn rfl⟩
 |k+11,h=>by lia
omit hn in
theorem R_{k:Nat}(h:k<11):([true,true,true,true,true,true,true,true,true,true,true]:List Bool).getD k false=true:=by
 match k,h with
 |0,_ | 1,_ | 2,_ | 3,_ | 4,_ | 5,_ | 6,_ | 7,_ | 8,_ | 9,_ | 10,_=>rfl
theorem D3(k:Nat)(hk:k<11)(c:Cell){N:Env->Prop}{R:RV->Env->Prop}{B C:Env->Prop}(nx:N [c,.ow (.lst (yR x0 x1 x2 x3 x4 x5 x6 x7 x8 x9 x10)),.sh (.int (k:Nat))]) :
  Ws (mU x0 x1 x2 x3 x4 x5 x6 x7 x8 x9 x10) [c,.ow (.lst (yR x0 x1 x2 x3 x4 x5 x6 x7 x8 x9 x10)),.sh (.int (k:Nat))] N R B C:=by
 obtain⟨e,ge,ix⟩:=Ms x0 x1 x2 x3 x4 x5 x6 x7 x8 x9 x10 hn k hk;have at_:=(ix [true,true,true,true,true,true,true,true,true,true,true] rfl).trans (by rw[R_ hk]);unfold mU;refine Yo (YR (YY (YI (YC (Yu (W_ (Yz rfl (U_ rfl (Yv (Yq (v:=.val (.bl true)) (Yw (YU ?_)) rfl at_) rfl rfl ge)))))))));refine YI (YC (Yu (W_ (Yz rfl (U_ rfl (Yv (Yq (v:=.val (.bl true)) (Yw (YU (YW ?_))) rfl at_) rfl rfl ge))))));refine YR (YC (W_ (YD (m_ (W_ (Yz rfl (U_ rfl (Yv ?_ rfl rfl ge))))))));refine V_ (YH (CF x0 x1 x2 x3 x4 x5 x6 x7 x8 x9 x10 hk ix) ?_ rfl rfl rfl rfl);have it:iR1 (eB ck [(eV 1)]) [c,.ow (.lst (yR x0 x1 x2 x3 x4 x5 x6 x7 x8 x9 x10)),.sh (.int (k:Nat))]=some ((UG 11).map fun i:Nat=>Dat.int (i:Int),[c,.ow (.lst (yR x0 x1 x2 x3 x4 x5 x6 x7 x8 x9 x10)),.sh (.int (k:Nat))]):=Zb (Y3 (YO (m_ (Yz rfl (V_ ⟨_,_,rfl,rfl,Cs.mk (i:=11) ⟨⟨vt 11,rfl⟩,by unfold BIG;lia⟩⟩)))));refine Za (fun j:Nat=>Dat.int (j:Int)) (UG 11) (fun j:Nat=>decide ((j:Int)=((k:Nat):Int))) Dat.bl ?_ it rfl (by decide) (by exact U8 rfl) fun j _=>W_ (U_ rfl (U_ rfl (YM (Yy ⟨rfl,rfl⟩) rfl rfl)));exact⟨_,_,_,rfl,rfl,Nf hk,Yw (YU (YW nx))⟩
theorem Jx:k8 x0 x1 x2 x3 x4 x5 x6 x7 x8 x9 x10 []=some (.val (.bl true)):=by
 apply Yt;unfold k8
 (refine Dm.Yr ?_ rfl rfl;and_intros)
 refine Yo ⟨.nx [.un,.ow (.lst [.exc x0,.exc x1,.cz x2 7,.exc x3,.exc x4,.exc x5,.exc x6,.exc x7,.exc x8,.exc x9]),.un],rfl,?_⟩;refine Yo ⟨.nx [.un,.ow (.lst (yR x0 x1 x2 x3 x4 x5 x6 x7 x8 x9 x10)),.un],rfl,?_⟩;refine Yo (Y6 ⟨(UG 11).map fun i:Nat=>Dat.int (i:Int),_,Zb (Y3 (YO (m_ (Yz rfl (V_ ⟨_,_,rfl,rfl,Cs.mk (i:=11) ⟨⟨vt 11,rfl⟩,by unfold BIG;lia⟩⟩))))),?_⟩);refine Y5 (fun i:Nat=>Dat.int (i:Int)) _ _ (UG 11) _ _ _ _ _ (fun p q ρ=>∃c:Cell,ρ=[.un,.ow (.lst (yR x0 x1 x2 x3 x4 x5 x6 x7 x8 x9 x10)),c]) ⟨_,rfl⟩ ?_ ?_
 ·rintro p i q ρ e ⟨c,rfl⟩;refine Dm.Bc rfl (by trivial) ?_;have hi:i<11:=U4.mp (by rw[e];simp);exact D3 x0 x1 x2 x3 x4 x5 x6 x7 x8 x9 x10 hn i hi _ ⟨_,rfl⟩
 ·rintro ρ ⟨c,rfl⟩;refine YA (W_ (Yu (W_ (Yz rfl (Yp (Yv (v:=.cz x2 7) (Yq (v:=.val (.int 7)) ?_ rfl (by unfold Ck;dsimp only;rw[if_pos rfl];try rfl)) rfl rfl rfl))))));exact Yp (YM (i:=7) (j:=7) (YJ rfl) rfl rfl)
end
theorem Fo:∀(ns:List Int) (a:Int),nR a ns∈a::ns/\∀x∈a::ns,nR a ns<=x
 |[],a=>⟨Uj ..,fun x h=>by rcases Ui.mp h with rfl | h;exact Int.le_refl _;exact nomatch h⟩
 |y::r,a=>by
  obtain⟨h1,h2⟩:=Fo r (if y<a then y else a);have h0:=h2 _ (Uj ..);show nR (if y<a then y else a) r∈_/\∀x∈_,nR (if y<a then y else a) r<=x
  generalize nR (if y<a then y else a) r=m at *
  refine⟨?_,fun x hx=>?_⟩
  ·rcases Ui.mp h1 with z | z
   ·rw[z];split
    ·exact Ue _ (Uj ..)
    ·exact Uj ..
   ·exact Ue _ (Ue _ z)
  ·rcases Ui.mp hx with rfl | hx
   ·split at h0<;>lia
   ·rcases Ui.mp hx with rfl | hx
    ·split at h0<;>lia
    ·exact h2 x (Ue _ hx)
theorem Mt(ms:List Int)(h:ms≠[]):∃m0,Ah [.lst (ms.map Dat.int)]=some (.val (.int m0))/\m0∈ms/\∀m∈ms,m0<=m:=by
 cases ms with
 |nil=>exact(h rfl).elim
 |cons a ns=>refine⟨nR a ns,?_,Fo ns a⟩;unfold Ah;dsimp only;rw[yD]
theorem Jy{f:List Dat->Option RV}{ρ:Env}{xs:List Val}{ds ds':List Dat}{v:RV}{Q:Val->Env->Prop}(h2:f ds=some v)(q:Q v.bI ρ)(h1:pks ρ xs=some ds)(h4:tks ρ xs=some (ds',ρ)):WF f ρ xs Q:=by
 cases h:bW v.dat with
 |true=>exact YH h2 q h1 h h4 rfl
 |false=>exact X_ h2 q h1 h
theorem yS{ns:List Int}{i:Int}{o p:Option Dat}{K:RV->Prop}(h0:0<=i)(h1:i<ns.length)(k:K (.val (.int (at' ns i))))(ho:o=some (.lst (ns.map Dat.int)))(hp:p=some (.int i)):Wg2 gIx o p K:=⟨_,_,_,ho,hp,mV ns i h0 h1,k⟩
theorem Sa{ns:List Int}(h:∀x∈ns,0<=x)(i:Int):0<=at' ns i:=by
 unfold at';rw[Vq];rcases e:ns[i.toNat]? with _ | x
 ·exact Int.le_refl _
 ·exact h x (VO e)
theorem Jz(r:List Tie)(i:Int)(h0:0<=i)(h1:i<4):∃x,gIx (.lst [.tup (r.map eU),.non,.str [110,111,110,101],.int 0]) (.int i)=some (.val x)/\tK isL x=some (.val (.bl false)):=by obtain⟨x,hx,e⟩:=DU [.tup (r.map eU),.non,.str [110,111,110,101],.int 0] i h0 h1;refine⟨x,e,?_⟩;simp only[Ui,VV,or_false]at hx;rcases hx with rfl | rfl | rfl | rfl<;>rfl
section
variable(x0 x1 x2 x3 x4 x5 x6 x7 x8 x9 x10:Nat)(hn:(CD x0 x1 x2 x3 x4 x5 x6 x7 x8 x9 x10).Nodup)
include hn
theorem Mu(S:Cell)(cell:Int)(c2 c3 c4 c5 c6 c7 c8 c9 c10 c11 c12:Cell) :
  Ws (DP x0 x1 x2 x3 x4 x5 x6 x7 x8 x9 x10) [S,.sh (.int cell),c2,c3,c4,c5,c6,c7,c8,c9,c10,c11,c12] (fun ρ=>∃c1 c2 c3 c4 c5 c6 c7 c8 c9 c10 c11 c12,ρ=[S,c1,c2,c3,c4,c5,c6,c7,c8,c9,c10,c11,c12]) (fun _ _=>False) (fun _=>False) (fun _=>False):=by
 have sz:1000<=SZ:=by decide
 have en:Cu [.int cell,.int 48,.int Z30]=some (.new (.lst ((numsOf cell 48).map Dat.int))):=DQ cell 48 (by decide);have ln:(numsOf cell 48).length=48:=Cy _ _ _ _;have nn:∀x∈numsOf cell 48,0<=x:=fun x hx=>(Bg _ _ _ _ x hx).1
 generalize numsOf cell 48=ns at en ln nn
 have l6:(qT ns (some 6) none).length=42:=by simp[qT,sIx,ln];decide
 have l5:(qT ns (some 4) (some 6)).length=2:=by simp[qT,sIx,ln];decide
 obtain⟨nI,r,er,n1',n2',rg,ru,rl⟩:=Gy (qT ns (some 6) none) 12 (by lia) (by lia) (by decide) (by decide);have rl':r.length<=12:=by lia
 obtain⟨n,rfl⟩:∃n:Nat,nI=(n:Nat):=⟨nI.toNat,by lia⟩
 have n1:1<=n:=by lia
 have n10:n<=10:=by lia
 obtain⟨x,ex,bx⟩:=GG n n1 n10 (at' ns 0 % (10 ^ 29)) (at' ns 1) (VQ _ (by decide));obtain⟨pl,ep,bp⟩:=Bl (at' ns 0) (at' ns 3) (Sa nn 0);have at0:=VQ (at' ns 2) (b:=(r.length:Int)+1) (by lia);obtain⟨ot,eo,bo⟩:=Jz r (at' ns 4 % 4) (VQ _ (by decide)) (VZ _ (by decide));obtain⟨k,k1,k2,ek⟩:=Mr (n:Nat) (at' ns 4);have rok:∀t∈r,kJ [.int (n:Nat),eU t]=some (.val (.bl true)):=fun t ht=>by
  obtain⟨a,b,c,d⟩:=Good.DZ rg t ht;have e:=ru t ht;have hz:Hi<Z30:=by decide
  exact vh n t a (by lia) b (by lia) (by lia) d
 unfold DP;refine Yx (fun ρ=>ρ=[S,.sh (.int cell),.ow (.lst (ns.map Dat.int)),c3,c4,c5,c6,c7,c8,c9,c10,c11,c12]) ?_ ?_
 ·repeat array_get_dec
  refine YT ?_ rfl rfl (by decide) RT
  repeat array_get_dec
  refine YH en ?_ rfl rfl rfl (by trivial)
  repeat array_get_dec
  rfl
 rintro ρ rfl;refine Yx (fun ρ=>ρ=[S,.sh (.int cell),.ow (.lst (ns.map Dat.int)),.sh (.int (n:Nat)),.sh (bC r),c5,c6,c7,c8,c9,c10,c11,c12]) ?_ ?_
 ·repeat array_get_dec
  refine YH er ?_ rfl rfl rfl (by trivial)
  repeat array_get_dec
  rfl
 rintro ρ rfl;refine Yx (fun ρ=>ρ=[S,.sh (.int cell),.ow (.lst (ns.map Dat.int)),.sh (.int (n:Nat)),.sh (bC r),.sh x,c6,c7,c8,c9,c10,c11,c12]) ?_ ?_
 ·repeat array_get_dec
  refine yS (ns:=ns) (i:=0) (by decide) (by lia) ?_ rfl rfl
  repeat array_get_dec
  refine YT (z:=10 ^ 29) ?_ rfl rfl (by decide) (by decide)
  repeat array_get_dec
  refine yS (ns:=ns) (i:=1) (by decide) (by lia) ?_ rfl rfl
  repeat array_get_dec
  refine Jy ex ?_ rfl rfl
  repeat array_get_dec
  rfl
 rintro ρ rfl;refine Yx (fun ρ=>ρ=[S,.sh (.int cell),.ow (.lst (ns.map Dat.int)),.sh (.int (n:Nat)),.sh (bC r),.sh x,.sh (.int (at' ns 2 % ((r.length:Int)+1))),c7,c8,c9,c10,c11,c12]) ?_ ?_
 ·repeat array_get_dec
  refine yS (ns:=ns) (i:=2) (by decide) (by lia) ?_ rfl rfl
  repeat array_get_dec
  ·rw[Ud]
  ·rw[Ud];lia
 rintro ρ rfl
 generalize at' ns 2 % ((r.length:Int)+1)=at2 at at0 ⊢
 have lA:=yC r none (some at2);have lB:=yC r (some at2) none
 generalize hA:qT r none (some at2)=A at lA
 generalize hB:qT r (some at2) none=B at lB
 refine Yx (fun ρ=>ρ=[S,.sh (.int cell),.ow (.lst (ns.map Dat.int)),.sh (.int (n:Nat)),.sh (bC r),.sh x,.sh (.int at2),.ow (.lst (A.map eU++[x]++B.map eU)),c8,c9,c10,c11,c12]) ?_ ?_
 ·repeat array_get_dec
  ·rw[Ao,Ao,hA,hB]
  ·rw[Ao,Ao,hA,hB];simp
   lia
  ·rw[Ao,hA];simp
   lia
 rintro ρ rfl;have mA:∀t∈A,t∈r:=fun t ht=>by rw[<- hA]at ht;exact Ct ht
 have mB:∀t∈B,t∈r:=fun t ht=>by rw[<- hB]at ht;exact Ct ht
 refine Yx (fun ρ=>ρ=[S,.sh (.int cell),.ow (.lst (ns.map Dat.int)),.sh (.int (n:Nat)),.sh (bC r),.sh x,.sh (.int at2),.ow (.lst (A.map eU++[x]++B.map eU)),.sh pl,c9,c10,c11,c12]) ?_ ?_
 ·repeat array_get_dec
  refine yS (ns:=ns) (i:=0) (by decide) (by lia) ?_ rfl rfl
  repeat array_get_dec
  refine yS (ns:=ns) (i:=3) (by decide) (by lia) ?_ rfl rfl
  repeat array_get_dec
  refine Jy ep ?_ rfl rfl
  repeat array_get_dec
  rfl
 rintro ρ rfl;have LS:(A.map eU++[x]++B.map eU).length<=1000:=by simp;lia
 have hS:∀y∈A.map eU++[x]++B.map eU,y=x\/kJ [.int (n:Nat),y]=some (.val (.bl true)):=fun y hy=>by
  rcases Uy.mp hy with hy | hy
  ·rcases Uy.mp hy with hy | hy
   ·obtain⟨t,ht,rfl⟩:=U0.mp hy;exact Or.inr (rok t (mA t ht))
   ·exact Or.inl (UK.mp hy)
  ·obtain⟨t,ht,rfl⟩:=U0.mp hy;exact Or.inr (rok t (mB t ht))
 have xS:x∈A.map eU++[x]++B.map eU:=by simp
 generalize A.map eU++[x]++B.map eU=SP at LS hS xS ⊢
 refine Yx (fun ρ=>ρ=[S,.sh (.int cell),.ow (.lst (ns.map Dat.int)),.sh (.int (n:Nat)),.sh (bC r),.sh x,.sh (.int at2),.ow (.lst SP),.sh pl,c9,c10,c11,c12]) ?_ ?_
 ·repeat array_get_dec
  refine X_ (vm x0 x1 x2 x3 x4 x5 x6 x7 x8 x9 x10 hn (t:=.lst SP) (mo:=0) bp) ?_ rfl rfl
  repeat array_get_dec
  refine Ys rfl ?_
  repeat array_get_dec
  refine X_ (vm x0 x1 x2 x3 x4 x5 x6 x7 x8 x9 x10 hn (t:=bC r) (mo:=0) bp) ?_ rfl rfl
  repeat array_get_dec
  refine Ys rfl ?_
  repeat array_get_dec
  rfl
 rintro ρ rfl;refine Yx (fun ρ=>ρ=[S,.sh (.int cell),.ow (.lst (ns.map Dat.int)),.sh (.int (n:Nat)),.sh (bC r),.sh x,.sh (.int at2),.ow (.lst SP),.sh pl,.sh ot,c10,c11,c12]) ?_ ?_
 ·repeat array_get_dec
  refine Zk ?_ rfl
  repeat array_get_dec
  refine yS (ns:=ns) (i:=4) (by decide) (by lia) ?_ rfl rfl
  repeat array_get_dec
  refine⟨_,_,_,rfl,rfl,eo,?_⟩
  repeat array_get_dec
  rfl
 rintro ρ rfl;refine Yx (fun ρ=>ρ=[S,.sh (.int cell),.ow (.lst (ns.map Dat.int)),.sh (.int (n:Nat)),.sh (bC r),.sh x,.sh (.int at2),.ow (.lst SP),.sh pl,.sh ot,c10,c11,c12]) ?_ ?_
 ·repeat array_get_dec
  refine X_ (oJ x0 x1 x2 x3 x4 x5 x6 x7 x8 x9 x10 hn n n1 n10 0 LS hS xS bx) ?_ rfl rfl
  repeat array_get_dec
  refine Ys rfl ?_
  repeat array_get_dec
  refine X_ (zS x0 x1 x2 x3 x4 x5 x6 x7 x8 x9 x10 hn n n1 n10 0 bo) ?_ rfl rfl
  repeat array_get_dec
  refine Ys rfl ?_
  repeat array_get_dec
  rfl
 rintro ρ rfl;refine Yx (fun ρ=>ρ=[S,.sh (.int cell),.ow (.lst (ns.map Dat.int)),.sh (.int (n:Nat)),.sh (bC r),.sh x,.sh (.int at2),.ow (.lst SP),.sh pl,.sh ot,c10,c11,c12]) ?_ ?_
 ·repeat array_get_dec
  refine yS (ns:=ns) (i:=4) (by decide) (by lia) ?_ rfl rfl
  repeat array_get_dec
  refine YH ek ?_ rfl rfl rfl (by trivial)
  repeat array_get_dec
  refine X_ (Bo x0 x1 x2 x3 x4 x5 x6 x7 x8 x9 x10 hn n n1 n10 k k1 k2 0) ?_ rfl rfl
  repeat array_get_dec
  refine Ys rfl ?_
  repeat array_get_dec
  rfl
 rintro ρ rfl
 repeat array_get_dec
 rotate_left
 ·show (r.map eU).all (okD 7)=true;rw[Yl];exact Vd.mpr fun t _=>rfl
 refine⟨fun hr0=>?_,fun _=>?_⟩
 rotate_left
 ·refine Ys rfl ?_
  repeat array_get_dec
  exact⟨_,_,_,_,_,_,_,_,_,_,_,_,rfl⟩
 have r1:1<=r.length:=by
  cases r with
  |nil=>exact nomatch hr0
  |cons _ _=>exact Nat.succ_le_succ (U6 _)
 repeat array_get_dec
 refine Zf (fun hn2=>?_) (fun _=>?_)
 rotate_left
 ·repeat array_get_dec
  exact⟨_,_,_,_,_,_,_,_,_,_,_,_,rfl⟩
 have n2:2<=n:=by lia
 obtain⟨E,ms,ec,hC,hms,hE⟩:=D0 n n2 n10 r rg ru r1 (by lia) (qT ns (some 4) (some 6)) l5;obtain⟨m0,em,mi,ml⟩:=Mt ms hms;have hz:Hi<=Z30:=by decide
 have lT:(r++E).length<=60:=by rw[UO];lia
 have c1:=yQ x0 x1 x2 x3 x4 x5 x6 x7 x8 x9 x10 hn n n1 n10 rg ru hz hC (T:=r++E) (fun t=>Iff.rfl) lT mi ml;have c2:=yQ x0 x1 x2 x3 x4 x5 x6 x7 x8 x9 x10 hn n n1 n10 rg ru hz hC (T:=(r++E).reverse) (fun t=>List.mem_reverse) (by rw[Xr];exact lT) mi ml;have c3:=oJ x0 x1 x2 x3 x4 x5 x6 x7 x8 x9 x10 hn n n1 n10 (xs:=(r++E).map eU++[x]) (x:=x) 0 (by rw [UO,Ud];show _+1≤1000;lia) (fun y hy=>by
  rcases Uy.mp hy with hy | hy
  ·obtain⟨t,ht,rfl⟩:=U0.mp hy;rcases Uy.mp ht with ht | ht
   ·exact Or.inr (rok t ht)
   ·obtain⟨a,b,c,d,e,f⟩:=hC.tok t ht;exact Or.inr (vh n t a (Int.le_trans b hz) c d e f)
  ·exact Or.inl (UK.mp hy)) (UD _ (UK.mpr rfl)) bx
 refine Yx (fun ρ=>ρ=[S,.sh (.int cell),.ow (.lst (ns.map Dat.int)),.sh (.int (n:Nat)),.sh (bC r),.sh x,.sh (.int at2),.ow (.lst SP),.sh pl,.sh ot,.sh (bC (r++E)),.sh (.lst (ms.map Dat.int)),c12]) ?_ ?_
 ·repeat array_get_dec
  refine YH ec ?_ rfl rfl rfl (by trivial)
  repeat array_get_dec
  rfl
 rintro ρ rfl;refine Yx (fun ρ=>ρ=[S,.sh (.int cell),.ow (.lst (ns.map Dat.int)),.sh (.int (n:Nat)),.sh (bC r),.sh x,.sh (.int at2),.ow (.lst SP),.sh pl,.sh ot,.sh (bC (r++E)),.sh (.lst (ms.map Dat.int)),.sh (.int m0)]) ?_ ?_
 ·repeat array_get_dec
  refine⟨_,_,rfl,em,?_⟩
  repeat array_get_dec
  rfl
 rintro ρ rfl;refine Yx (fun ρ=>ρ=[S,.sh (.int cell),.ow (.lst (ns.map Dat.int)),.sh (.int (n:Nat)),.sh (bC r),.sh x,.sh (.int at2),.ow (.lst SP),.sh pl,.sh ot,.sh (bC (r++E)),.sh (.lst (ms.map Dat.int)),.sh (.int m0)]) ?_ ?_
 ·repeat array_get_dec
  refine X_ c1 ?_ rfl rfl
  repeat array_get_dec
  refine Ys rfl ?_
  repeat array_get_dec
  rw[<- List.map_reverse];refine X_ c2 ?_ rfl rfl
  repeat array_get_dec
  refine Ys rfl ?_
  repeat array_get_dec
  rfl
 rintro ρ rfl
 repeat array_get_dec
 ·refine X_ c3 ?_ rfl rfl
  repeat array_get_dec
  refine Ys rfl ?_
  repeat array_get_dec
  refine X_ (vm x0 x1 x2 x3 x4 x5 x6 x7 x8 x9 x10 hn (t:=bC (r++E)) (mo:=0) bp) ?_ rfl rfl
  repeat array_get_dec
  refine Ys rfl ?_
  repeat array_get_dec
  exact⟨_,_,_,_,_,_,_,_,_,_,_,_,rfl⟩
 ·rw[Ud];show _+1<=SZ
  lia
theorem math(ns:List Int)(h:ns.length<=63):yE x0 x1 x2 x3 x4 x5 x6 x7 x8 x9 x10 [.lst (ns.map Dat.int)]=some (.val (.bl true)):=by
 apply Yt;unfold yE
 (refine Dm.Yr ?_ rfl rfl;and_intros)
 repeat array_get_dec
 ·refine Y5 Dat.int _ _ (qT ns none (some 20)++[(ns.length:Int)]) _ _ _ _ _ (fun p q ρ=>∃c1 c2 c3 c4 c5 c6 c7 c8 c9 c10 c11 c12,ρ=[.sh (.lst (ns.map Dat.int)),c1,c2,c3,c4,c5,c6,c7,c8,c9,c10,c11,c12]) ⟨_,_,_,_,_,_,_,_,_,_,_,_,rfl⟩ ?_ ?_
  ·rintro p cell q ρ ex ⟨c1,c2,c3,c4,c5,c6,c7,c8,c9,c10,c11,c12,rfl⟩;refine Dm.Bc rfl (by trivial) ?_;obtain⟨o,h1,h2⟩:=Mu x0 x1 x2 x3 x4 x5 x6 x7 x8 x9 x10 hn (.sh (.lst (ns.map Dat.int))) cell c2 c3 c4 c5 c6 c7 c8 c9 c10 c11 c12;cases o with
   |nx ρ1=>exact⟨_,h1,h2⟩
   |_=>exact h2.elim
  ·rintro ρ ⟨c1,c2,c3,c4,c5,c6,c7,c8,c9,c10,c11,c12,rfl⟩;exact YA (YD (V_ (X_ (Jx x0 x1 x2 x3 x4 x5 x6 x7 x8 x9 x10 hn) rfl rfl rfl)))
 ·have:=yC ns none (some 20);simp[SZ];lia
end
end P
namespace Q
open PySem L2 Br Dm P
noncomputable def top(i:Nat):Stmt:=PySem.Challenge.pw_sinceply_k02_records_refused.main.body.getD i (.Pass ⟨0,0,0,0⟩)
noncomputable def kN:Stmt:=match top 12 with
 |.ClassDef _ _ _ b _ _ _ _ _ _ _=>b.getD 0 (.Pass ⟨0,0,0,0⟩)
 |_=>.Pass ⟨0,0,0,0⟩
structure Txt(mg:Str->Option Value)(K:gc)(base:Heap)(D4 D5 D6 D7 D8 D9 CJ D_ CK zU yT yU yV yW eZ e9 cY yX yY yZ y9 y_ aA aq ai aD au aj ah aE av ak aF az e_:Addr)(mC zb zc zd ze zf zg wC zh wD qL qV qW qX qY dM dN cO qZ q_ ri rj vv:FuncData):Prop where
 ji:mg "Clash" = some (.ref aA)
 ff:mg "NoDeed" = some (.ref aq)
 cP:mg "NoLayers" = some (.ref ai)
 jj:mg "NoNet" = some (.ref aD)
 fh:mg "NoPair" = some (.ref au)
 dj:mg "NoPaper" = some (.ref aj)
 cQ:mg "NoPlaces" = some (.ref ah)
 jm:mg "NoRow" = some (.ref aE)
 fk:mg "NoText" = some (.ref av)
 fm:mg "NoTies" = some (.ref ak)
 bL:mg "PlyError" = some (.ref aF)
 fq:mg "Unlike" = some (.ref az)
 uc:Vo "NoPlaces" ah bmV "ValueError.__new__" mg base
 bF:k6 K ah
 CL:Ut K (.ref ah)=true
 rm:Vo "NoTies" ak bmV "ValueError.__new__" mg base
 b5:k6 K ak
 GJ:Ut K (.ref ak)=true
 zj:Gu "Clash" aA e_ bmV "ValueError.__new__" K mg base
 CM:W2 K aA=true
 zk:Ug K (.ref aA) "moment" = some none
 JA:Ug K (.ref aA) "__setattr__" = some (some (.builtin "object.__setattr__"))
 JB:W3 K (.ref aF) "__getattribute__" = some (some (.builtin "type.__getattribute__"))
 JC:X3 K aF (.type "type")=true
 JD:X4 K (.ref aF) (.type "type") "__init__" = some (.val (.builtin "ValueError.__init__"))
 b7:k6 K aA
 Bq:Vo "NoLayers" ai bmV "ValueError.__new__" mg base
 bG:k6 K ai
 CN:Ut K (.ref ai)=true
 Ea:Vo "NoPair" au bmV "ValueError.__new__" mg base
 b8:k6 K au
 GK:Ut K (.ref au)=true
 GL:Vo "NoNet" aD bmV "ValueError.__new__" mg base
 cI:k6 K aD
 JE:Ut K (.ref aD)=true
 Eb:Vo "Unlike" az bmV "ValueError.__new__" mg base
 b9:k6 K az
 GN:Ut K (.ref az)=true
 Ec:Vo "NoText" av bmV "ValueError.__new__" mg base
 b_:k6 K av
 GO:Ut K (.ref av)=true
 CO:Vo "NoPaper" aj bmV "ValueError.__new__" mg base
 bO:k6 K aj
 Ed:Ut K (.ref aj)=true
 GP:Vo "NoRow" aE bmV "ValueError.__new__" mg base
 cJ:k6 K aE
 JF:Ut K (.ref aE)=true
 Ef:Vo "NoDeed" aq bmV "ValueError.__new__" mg base
 cg:k6 K aq
 GQ:Ut K (.ref aq)=true
 qz:eg K (.ref aA) (.type "ValueError")=some true
 oK:eg K (.ref aq) (.type "ValueError")=some true
 mW:eg K (.ref ai) (.type "ValueError")=some true
 qA:eg K (.ref aD) (.type "ValueError")=some true
 oM:eg K (.ref au) (.type "ValueError")=some true
 nT:eg K (.ref aj) (.type "ValueError")=some true
 mX:eg K (.ref ah) (.type "ValueError")=some true
 qB:eg K (.ref aE) (.type "ValueError")=some true
 oN:eg K (.ref av) (.type "ValueError")=some true
 oO:eg K (.ref ak) (.type "ValueError")=some true
 oQ:eg K (.ref az) (.type "ValueError")=some true
 ud:PySem.W.mT K aA aF
 oR:PySem.W.mT K ah aF
 rq:PySem.W.mT K ak aF
 zl:eg K (.ref aA) (.ref aA)=some true
 wN:eg K (.ref aA) (.ref aq)=some false
 ue:eg K (.ref aA) (.ref ai)=some false
 zm:eg K (.ref aA) (.ref aD)=some false
 wO:eg K (.ref aA) (.ref au)=some false
 vz:eg K (.ref aA) (.ref aj)=some false
 uf:eg K (.ref aA) (.ref ah)=some false
 zo:eg K (.ref aA) (.ref aE)=some false
 wQ:eg K (.ref aA) (.ref av)=some false
 wR:eg K (.ref aA) (.ref ak)=some false
 ug:eg K (.ref aA) (.ref aF)=some true
 wU:eg K (.ref aA) (.ref az)=some false
 wV:eg K (.ref aq) (.ref aA)=some false
 vA:eg K (.ref aq) (.ref aq)=some true
 rz:eg K (.ref aq) (.ref ai)=some false
 wW:eg K (.ref aq) (.ref aD)=some false
 vC:eg K (.ref aq) (.ref au)=some false
 uh:eg K (.ref aq) (.ref aj)=some false
 rA:eg K (.ref aq) (.ref ah)=some false
 wX:eg K (.ref aq) (.ref aE)=some false
 vD:eg K (.ref aq) (.ref av)=some false
 vE:eg K (.ref aq) (.ref ak)=some false
 rB:eg K (.ref aq) (.ref aF)=some true
 vF:eg K (.ref aq) (.ref az)=some false
 um:eg K (.ref ai) (.ref aA)=some false
 rD:eg K (.ref ai) (.ref aq)=some false
 oS:eg K (.ref ai) (.ref ai)=some true
 uo:eg K (.ref ai) (.ref aD)=some false
 rE:eg K (.ref ai) (.ref au)=some false
 qC:eg K (.ref ai) (.ref aj)=some false
 oU:eg K (.ref ai) (.ref ah)=some false
 uq:eg K (.ref ai) (.ref aE)=some false
 rF:eg K (.ref ai) (.ref av)=some false
 rG:eg K (.ref ai) (.ref ak)=some false
 oV:eg K (.ref ai) (.ref aF)=some true
 rH:eg K (.ref ai) (.ref az)=some false
 zp:eg K (.ref aD) (.ref aA)=some false
 wY:eg K (.ref aD) (.ref aq)=some false
 ur:eg K (.ref aD) (.ref ai)=some false
 zq:eg K (.ref aD) (.ref aD)=some true
 wZ:eg K (.ref aD) (.ref au)=some false
 vG:eg K (.ref aD) (.ref aj)=some false
 uu:eg K (.ref aD) (.ref ah)=some false
 zu:eg K (.ref aD) (.ref aE)=some false
 w4:eg K (.ref aD) (.ref av)=some false
 w6:eg K (.ref aD) (.ref ak)=some false
 uv:eg K (.ref aD) (.ref aF)=some true
 w_:eg K (.ref aD) (.ref az)=some false
 xg:eg K (.ref au) (.ref aA)=some false
 vH:eg K (.ref au) (.ref aq)=some false
 rJ:eg K (.ref au) (.ref ai)=some false
 xh:eg K (.ref au) (.ref aD)=some false
 vJ:eg K (.ref au) (.ref au)=some true
 uw:eg K (.ref au) (.ref aj)=some false
 rK:eg K (.ref au) (.ref ah)=some false
 xj:eg K (.ref au) (.ref aE)=some false
 vK:eg K (.ref au) (.ref av)=some false
 vL:eg K (.ref au) (.ref ak)=some false
 rL:eg K (.ref au) (.ref aF)=some true
 vM:eg K (.ref au) (.ref az)=some false
 vN:eg K (.ref aj) (.ref aA)=some false
 ux:eg K (.ref aj) (.ref aq)=some false
 qD:eg K (.ref aj) (.ref ai)=some false
 vO:eg K (.ref aj) (.ref aD)=some false
 uy:eg K (.ref aj) (.ref au)=some false
 rM:eg K (.ref aj) (.ref aj)=some true
 qE:eg K (.ref aj) (.ref ah)=some false
 vP:eg K (.ref aj) (.ref aE)=some false
 uz:eg K (.ref aj) (.ref av)=some false
 uA:eg K (.ref aj) (.ref ak)=some false
 qF:eg K (.ref aj) (.ref aF)=some true
 uB:eg K (.ref aj) (.ref az)=some false
 uC:eg K (.ref ah) (.ref aA)=some false
 rN:eg K (.ref ah) (.ref aq)=some false
 oW:eg K (.ref ah) (.ref ai)=some false
 uD:eg K (.ref ah) (.ref aD)=some false
 rO:eg K (.ref ah) (.ref au)=some false
 qG:eg K (.ref ah) (.ref aj)=some false
 oX:eg K (.ref ah) (.ref ah)=some true
 uE:eg K (.ref ah) (.ref aE)=some false
 rP:eg K (.ref ah) (.ref av)=some false
 rQ:eg K (.ref ah) (.ref ak)=some false
 oY:eg K (.ref ah) (.ref aF)=some true
 rR:eg K (.ref ah) (.ref az)=some false
 zv:eg K (.ref aE) (.ref aA)=some false
 xm:eg K (.ref aE) (.ref aq)=some false
 uF:eg K (.ref aE) (.ref ai)=some false
 zw:eg K (.ref aE) (.ref aD)=some false
 xo:eg K (.ref aE) (.ref au)=some false
 vQ:eg K (.ref aE) (.ref aj)=some false
 uG:eg K (.ref aE) (.ref ah)=some false
 zz:eg K (.ref aE) (.ref aE)=some true
 xq:eg K (.ref aE) (.ref av)=some false
 xr:eg K (.ref aE) (.ref ak)=some false
 uH:eg K (.ref aE) (.ref aF)=some true
 xu:eg K (.ref aE) (.ref az)=some false
 xw:eg K (.ref av) (.ref aA)=some false
 vR:eg K (.ref av) (.ref aq)=some false
 rS:eg K (.ref av) (.ref ai)=some false
 xx:eg K (.ref av) (.ref aD)=some false
 vS:eg K (.ref av) (.ref au)=some false
 uI:eg K (.ref av) (.ref aj)=some false
 rT:eg K (.ref av) (.ref ah)=some false
 xy:eg K (.ref av) (.ref aE)=some false
 vU:eg K (.ref av) (.ref av)=some true
 vV:eg K (.ref av) (.ref ak)=some false
 rV:eg K (.ref av) (.ref aF)=some true
 vW:eg K (.ref av) (.ref az)=some false
 xA:eg K (.ref ak) (.ref aA)=some false
 vX:eg K (.ref ak) (.ref aq)=some false
 rW:eg K (.ref ak) (.ref ai)=some false
 xB:eg K (.ref ak) (.ref aD)=some false
 vY:eg K (.ref ak) (.ref au)=some false
 uJ:eg K (.ref ak) (.ref aj)=some false
 rX:eg K (.ref ak) (.ref ah)=some false
 xC:eg K (.ref ak) (.ref aE)=some false
 vZ:eg K (.ref ak) (.ref av)=some false
 v5:eg K (.ref ak) (.ref ak)=some true
 rY:eg K (.ref ak) (.ref aF)=some true
 v7:eg K (.ref ak) (.ref az)=some false
 xD:eg K (.ref az) (.ref aA)=some false
 v8:eg K (.ref az) (.ref aq)=some false
 rZ:eg K (.ref az) (.ref ai)=some false
 xE:eg K (.ref az) (.ref aD)=some false
 v9:eg K (.ref az) (.ref au)=some false
 uK:eg K (.ref az) (.ref aj)=some false
 r8:eg K (.ref az) (.ref ah)=some false
 xF:eg K (.ref az) (.ref aE)=some false
 v_:eg K (.ref az) (.ref av)=some false
 wc:eg K (.ref az) (.ref ak)=some false
 r9:eg K (.ref az) (.ref aF)=some true
 we:eg K (.ref az) (.ref az)=some true
 bU:mg "ValueError" = none
 Fp:mg "all" = none
 Pu:mg "bool" = none
 Sb:mg "int" = none
 aa:mg "isinstance" = none
 nQ:mg "len" = none
 zA:mg "list" = none
 Nk:mg "max" = none
 Ax:mg "min" = none
 k9:mg "range" = none
 JG:mg "set" = none
 zB:mg "sorted" = none
 Fq:mg "tuple" = none
 jn:∃t,mg "MOST_TIES" = some (.int 60 t)
 TY:mg "is_whole" = some (.ref D4)
 Pw:mg "is_within" = some (.ref D5)
 Sd:mg "is_places" = some (.ref D6)
 Se:mg "is_place" = some (.ref D7)
 TZ:mg "is_moment" = some (.ref D8)
 Mv:mg "is_tie_either_way" = some (.ref D9)
 Mw:mg "look_at_places" = some (.ref CJ)
 Px:mg "put_in_order" = some (.ref D_)
 Sf:mg "look_for_clash" = some (.ref CK)
 Mx:mg "record_of" = some (.ref zU)
 Sg:mg "_law_mixed" = some (.ref yT)
 Sh:mg "_law_numbers" = some (.ref yU)
 Si:mg "_law_ends" = some (.ref yV)
 Sj:mg "_law_record" = some (.ref yW)
 wF:mg "_law_marks" = some (.ref eZ)
 CQ:mg "_law_apart" = some (.ref e9)
 cj:mg "_law_refused" = some (.ref cY)
 Sk:mg "_law_no_places" = some (.ref yX)
 Sm:mg "_law_no_tie" = some (.ref yY)
 Sn:mg "_law_many" = some (.ref yZ)
 So:mg "_law_clashed" = some (.ref y9)
 T4:mg "law" = some (.ref y_)
 uL:Fun K "__init__" "Clash.__init__" kN e_ mC
 Sq:Fun K "is_whole" "is_whole" (top 14) D4 zb
 Py:Binds K zb ["thing"] []
 My:Fun K "is_within" "is_within" (top 15) D5 zc
 JH:Binds K zc ["thing","low","high"] []
 Pz:Fun K "is_places" "is_places" (top 16) D6 zd
 PB:Fun K "is_place" "is_place" (top 17) D7 ze
 Ss:Fun K "is_moment" "is_moment" (top 18) D8 zf
 Mz:Binds K ze ["n","thing"] []
 PC:Binds K zf ["thing"] []
 JI:Fun K "is_tie_either_way" "is_tie_either_way" (top 19) D9 zg
 MA:Binds K zd ["thing"] []
 GR:Fun K "look_at_places" "look_at_places" (top 20) CJ wC
 MB:Fun K "put_in_order" "put_in_order" (top 24) D_ zh
 MC:Fun K "look_for_clash" "look_for_clash" (top 25) CK wD
 uM:Binds K mC ["self","moment"] []
 GS:Binds K zg ["n","thing"] []
 GU:Binds K wC ["n"] []
 JJ:Binds K zh ["thing"] []
 MD:Binds K wD ["ties"] []
 CS:Fun K "record_of" "record_of" (top 23) zU qL
 Nl:Fun K "_law_mixed" "_law_mixed" (top 27) yT qV
 JK:Binds K qV ["cell","k"] []
 Nm:Fun K "_law_numbers" "_law_numbers" (top 28) yU qW
 Nn:Fun K "_law_ends" "_law_ends" (top 29) yV qX
 JL:Binds K qX ["n","kind","one","other"] []
 Np:Fun K "_law_record" "_law_record" (top 30) yW qY
 oZ:Fun K "_law_marks" "_law_marks" (top 31) eZ dM
 k_:Binds K dM ["caught"] []
 wG:Fun K "_law_apart" "_law_apart" (top 32) e9 dN
 GV:Binds K qL ["n","things"] []
 bP:Fun K "_law_refused" "_law_refused" (top 33) cY cO
 Nq:Fun K "_law_no_places" "_law_no_places" (top 34) yX qZ
 Nr:Fun K "_law_no_tie" "_law_no_tie" (top 35) yY q_
 Nt:Fun K "_law_many" "_law_many" (top 36) yZ ri
 Nu:Fun K "_law_clashed" "_law_clashed" (top 37) y9 rj
 JM:Binds K qW ["cell","many","base"] []
 JN:Binds K qY ["numbers","most"] []
 o7:Binds K dN [] []
 bK:Binds K cO ["n","things","kind","moment"] []
 JO:Binds K qZ ["far","number"] []
 JP:Binds K q_ ["n","far","number"] []
 JQ:Binds K ri ["n","number"] []
 JR:Binds K rj ["n","record","numbers"] []
 Su:Fun K "law" "law" (top 38) y_ vv
section
variable{P':Program}{w:World}{K:gc}{mg:Str->Option Value}{base:Heap}{D4 D5 D6 D7 D8 D9 CJ D_ CK zU yT yU yV yW eZ e9 cY yX yY yZ y9 y_ aA aq ai aD au aj ah aE av ak aF az e_:Addr}
variable{mC zb zc zd ze zf zg wC zh wD qL qV qW qX qY dM dN cO qZ q_ ri rj vv:FuncData}
theorem GW:br ["self","moment"] ["self","moment"] (aG kN):=fsc
theorem Sv:br ["thing"] ["thing"] (aG (top 14)):=fsc
theorem Sw:br ["thing","low","high"] ["thing","low","high"] (aG (top 15)):=fsc
theorem Sy:br ["thing"] ["thing"] (aG (top 16)):=fsc
theorem Sz:br ["n","thing"] ["n","thing"] (aG (top 17)):=fsc
theorem SA:br ["thing"] ["thing"] (aG (top 18)):=fsc
theorem SD:br ["n","thing"] ["n","thing"] (aG (top 19)):=fsc
theorem Nv:br ["n"] ["n"] (aG (top 20)):=fsc
theorem SE:br ["thing"] ["thing"] (aG (top 24)):=fsc
theorem Ft:br ["ties","at"] ["ties"] (aG (top 25)):=fsc
theorem zC:br ["n","things","ties"] ["n","things"] (aG (top 23)):=fsc
theorem PD:(["n","things","ties","thing"]:List Str).Nodup:=by decide +kernel
theorem PF:(["n","things","ties","thing"]:List Str).Nodup:=by decide +kernel
theorem PJ:(["n","things","ties","thing"]:List Str).Nodup:=by decide +kernel
theorem PK:(["n","things","ties","thing"]:List Str).Nodup:=by decide +kernel
theorem PL:(["n","things","ties","thing"]:List Str).Nodup:=by decide +kernel
theorem PM:(["n","things","ties","thing"]:List Str).Nodup:=by decide +kernel
theorem PN:(["n","things","ties","thing"]:List Str).Nodup:=by decide +kernel
theorem Eg:br ["cell","k","number"] ["cell","k"] (aG (top 27)):=fsc
theorem lF:br ["cell","many","base","found","left","k","number","turns"] ["cell","many","base"] (aG (top 28)):=fsc
theorem JS:br ["n","kind","one","other","a"] ["n","kind","one","other"] (aG (top 29)):=fsc
theorem kG:br ["numbers","most","n","many","wide","moment","record","k","a","b"] ["numbers","most"] (aG (top 30)):=fsc
theorem kK:br ["caught","some"] ["caught"] (aG (top 31)):=fsc
theorem mY:br ["0","made","k"] [] (aG (top 32)):=fsc
theorem zV:(["0","made","k","j"]:List Str).Nodup:=by decide +kernel
theorem cy:br ["n","things","kind","moment","caught","e"] ["n","things","kind","moment"] (aG (top 33)):=fsc
theorem xG:(["n","things","kind","moment","caught","e","j"]:List Str).Nodup:=by decide +kernel
theorem PR:br ["far","number"] ["far","number"] (aG (top 34)):=fsc
theorem Bs:br ["n","far","number","some"] ["n","far","number"] (aG (top 35)):=fsc
theorem PV:br ["n","number"] ["n","number"] (aG (top 36)):=fsc
theorem ME:(["n","number","k"]:List Str).Nodup:=by decide +kernel
theorem r_:br ["n","record","numbers","things","moments","number","moment","a","b"] ["n","record","numbers"] (aG (top 37)):=fsc
theorem jZ:br ["script","cell","numbers","n","record","thing","at","spoilt","places","other","things","moments","least"] ["script"] (aG (top 38)):=fsc
variable(T:Txt mg K base D4 D5 D6 D7 D8 D9 CJ D_ CK zU yT yU yV yW eZ e9 cY yX yY yZ y9 y_ aA aq ai aD au aj ah aE av ak aF az e_ mC zb zc zd ze zf zg wC zh wD qL qV qW qX qY dM dN cO qZ q_ ri rj vv)
include T
theorem Ay :
  cF P' w K mg base CX0 1 e_ mC ["self","moment"] (ve aA):=by
 obtain⟨bm,N,nm,q,bs,sn,sub,ab,col,dd,k0,k1,k2,k3,k5,hC,TT⟩:=T.zj.obj;exact O_ T.uL GW rfl (fun cdv A outer s H E hr=>nV (tF (I_ rfl T.bL UC TT hC T.JB T.JC T.JD rfl (gb (pv 0) (gb (pv 1) mE)))) (nV (RE PySem.F.store_ValueError TT hC T.JA T.zk (pv 0) (pv 1)) En))
theorem SG :
  cF P' w K mg base CX0 1 D4 zb ["thing"] (spD Me):=
 okQ T.Sq Sv fun _ _ _ _ _ _ hr=>(a_ (s_r (EF (ye K4 (by rfl) rfl T.Sb rfl T.aa (d_v 0)) (EE (Q3 (ye Ie (by rfl) rfl T.Pu rfl T.aa (d_v 0)))))))
theorem JT :
  cF P' w K mg base CX0 2 D5 zc ["thing","low","high"] (spD zR):=
 okQ T.My Sw fun _ _ _ _ _ _ hr=>(a_ (s_r (EF (bq (SG T) (Br.hm hr) rfl T.TY T.Sq.kp T.Py (af (d_v 0) aB)) (EE (K6 MP MT MP MT (d_v 1) (d_v 0) (d_v 2))))))
theorem Nx :
  cF P' w K mg base CX0 3 D6 zd ["thing"] (spD lD):=
 okQ T.Pz Sy fun _ _ _ _ _ _ hr=>(a_ (s_r (bq (JT T) (Br.hm hr) rfl T.Pw T.My.kp T.JH (af (d_v 0) (af d_i (af d_i aB))))))
theorem Ny :
  cF P' w K mg base CX0 3 D7 ze ["n","thing"] (spD DM):=
 okQ T.PB Sz fun _ _ _ _ _ _ hr=>(a_ (s_r (bq (JT T) (Br.hm hr) rfl T.Pw T.My.kp T.JH (af (d_v 1) (af d_i (af (yc (d_v 0) d_i) aB))))))
theorem SH :
  cF P' w K mg base CX0 3 D8 zf ["thing"] (spD Gx):=
 okQ T.Ss SA fun _ _ _ _ _ _ hr=>(a_ (s_r (bq (JT T) (Br.hm hr) rfl T.Pw T.My.kp T.JH (af (d_v 0) (af d_i (af (yd d_i d_i) aB))))))
theorem Fv :
  cF P' w K mg base CX0 4 D9 zg ["n","thing"] (spD kJ):=
 okQ T.JI SD fun _ _ _ _ _ _ hr=>(aM (kj (t_w (w_or (gh (gj (ye kit_tuple (by rfl) rfl T.Fq rfl T.aa (d_v 1)))) (n5 (K2 hr (nJ rfl T.nQ (af (d_v 1) aB)) d_i)))) (a_ (s_r d_b)) eS)
  (a_ (s_r (EF (bq (SH T) (Br.hm hr) rfl T.TZ T.Ss.kp T.PC (af (bB (d_v 1) d_i) aB)) (EF (bq (Ny T) (Br.hm hr) rfl T.Se T.PB.kp T.Mz (af (d_v 0) (af (bB (d_v 1) d_i) aB))) (EE (bq (Ny T) (Br.hm hr) rfl T.Se T.PB.kp T.Mz (af (d_v 0) (af (bB (d_v 1) d_i) aB)))))))))
theorem JU :
  cF P' w K mg base CX0 4 CJ wC ["n"] (spD vf):=
 okQ T.GR Nv fun _ _ _ _ _ _ hr=>(a_ (kj (gh (gj (bq (Nx T) (Br.hm hr) rfl T.Sd T.Pz.kp T.MA (af (d_v 0) aB)))) (a_ kX) eS))
theorem kL :
  cF P' w K mg base (CXE P' w ah) 4 CJ wC ["n"] (spX ah cM):=by
 exact okY (n:=1) (m:=0) T.GR Nv rfl rfl (fun cdv A outer s H E hr=>(tU (O7 (gh (gj (bq (Nx T) (Br.hm hr) rfl T.Sd T.Pz.kp T.MA (af (d_v 0) aB)))) (tU (y_x (x_raise T.uc UC rfl))) O8)))
theorem JV :
  cF P' w K mg base CX0 1 D_ zh ["thing"] (spD DN):=
 okQ T.MB SE fun _ _ _ _ _ _ hr=>(a_ (s_r (cL (af (bB (d_v 0) d_i) (af (AO rfl rfl T.Ax (af (bB (d_v 0) d_i) (af (bB (d_v 0) d_i) aB))) (af (Ib rfl rfl T.Nk (af (bB (d_v 0) d_i) (af (bB (d_v 0) d_i) aB))) aB))))))
theorem SI :
  cF P' w K mg base CX0 3 CK wD ["ties"] (spD Mf):=
 okQ T.MC Ft fun _ _ _ _ _ _ hr=>(a_ (Ad V0 rfl (Q4 rfl T.k9 (af d_i (af (nJ rfl T.nQ (af (d_v 0) aB)) aB))) (g_n 1 Ft.nd)
  (a_ (kj (AM hr (bB (bB (d_v 0) (yc (d_v 1) d_i)) d_i) (bB (bB (d_v 0) (d_v 1)) d_i)) (a_ kX) eS))))
theorem lG :
  ∀m:Int,cF P' w K mg base (CXF P' w aA) 3 CK wD ["ties"] (spF aA m (cE m)):=by
 intro m;exact okZ (n:=1) (m:=1) T.MC Ft rfl rfl (fun cdv A outer s H E hr=>(Co (RL (Q4 rfl T.k9 (af d_i (af (nJ rfl T.nQ (af (d_v 0) aB)) aB))) (g_n 1 Ft.nd) (a_ (kj (AM hr (bB (bB (d_v 0) (yc (d_v 1) d_i)) d_i) (bB (bB (d_v 0) (d_v 1)) d_i)) (a_ kX) eS))
  (Co (TJ (AM hr (bB (bB (d_v 0) (yc (d_v 1) d_i)) d_i) (bB (bB (d_v 0) (d_v 1)) d_i)) (Co (LW rfl T.zj UC rfl (Ay T) (Br.hm hr) T.uM (bB (bB (d_v 0) (d_v 1)) d_i))) TH)))))
theorem SJ :
  cF P' w K mg base CX0 5 zU qL ["n","things"] (spD Bd):=by
 refine T.CS.ok zC (fun vs H Q E h=>Dh h) (fun cdv A outer s H vs Q E hr h=>?_);obtain⟨jo,i_⟩:=T.jn;exact ⟨_,(aM (s_e (bq (JU T) (Br.hm hr) rfl T.Mw T.GR.kp T.GU (af (d_v 0) aB)))
  (aM (kj (t_w (w_or (gh (gj (ye tQ (by rfl) rfl T.zA rfl T.aa (d_v 1)))) (n5 (gh (gj (EH rfl rfl T.Fp (af (yg 1 ["n","things","ties"] ["thing"] (c_n 3 PD rfl rfl) (d_v 1) (fun _ _ _ _ _=>lq) (fun _ _ _ _ _=>(bq (Fv T) (Br.hm hr) rfl T.Mv T.JI.kp T.GS (af (d_v 0) (af (d_v 3) aB))))) aB))))))) (a_ kX) eS)
  (aM (s_a 2 zC.nd (oG hr rfl rfl T.zB rfl T.JG (yg 1 ["n","things","ties"] ["thing"] (c_n 3 PF rfl rfl) (d_v 1) (fun _ _ _ _ _=>lq) (fun _ _ _ _ _=>(bq (JV T) (Br.hm hr) rfl T.Px T.MB.kp T.JJ (af (d_v 3) aB))))))
  (aM (kj (F1 (nJ rfl T.nQ (af (d_v 2) aB)) (d_g rfl i_)) (a_ kX) eS)
  (aM (s_e (bq (SI T) (Br.hm hr) rfl T.Sf T.MC.kp T.MD (af (d_v 2) aB)))
  (a_ (s_r (d_v 2)))))))),QT (n:=2) (m:=1) rfl h⟩
theorem mZ :
  cF P' w K mg base (CXE P' w ah) 5 zU qL ["n","things"] (spX ah aX):=by
 obtain⟨jo,i_⟩:=T.jn;exact okY (n:=2) (m:=1) T.CS zC rfl rfl (fun cdv A outer s H E hr=>(tU (y_x (Dr (x_call (kL T) (Br.hm hr) rfl T.Mw T.GR.kp T.GU Rn (af (d_v 0) aB))))))
theorem o8 :
  cF P' w K mg base (CXE P' w ak) 5 zU qL ["n","things"] (spX ak bw):=by
 obtain⟨jo,i_⟩:=T.jn;exact okY (n:=2) (m:=1) T.CS zC rfl rfl (fun cdv A outer s H E hr=>(IX (s_e (bq (JU T) (Br.hm hr) rfl T.Mw T.GR.kp T.GU (af (d_v 0) aB))) (TF (tU (O7 (t_w (w_or (gh (gj (ye tQ (by rfl) rfl T.zA rfl T.aa (d_v 1)))) (n5 (gh (gj (EH rfl rfl T.Fp (af (yg 1 ["n","things","ties"] ["thing"] (c_n 3 PJ rfl rfl) (d_v 1) (fun _ _ _ _ _=>lq) (fun _ _ _ _ _=>(bq (Fv T) (Br.hm hr) rfl T.Mv T.JI.kp T.GS (af (d_v 0) (af (d_v 3) aB))))) aB))))))) (tU (y_x (x_raise T.rm UC rfl))) O8)) (IX (kj (t_w (w_or (gh (gj (ye tQ (by rfl) rfl T.zA rfl T.aa (d_v 1)))) (n5 (gh (gj (EH rfl rfl T.Fp (af (yg 1 ["n","things","ties"] ["thing"] (c_n 3 PL rfl rfl) (d_v 1) (fun _ _ _ _ _=>lq) (fun _ _ _ _ _=>(bq (Fv T) (Br.hm hr) rfl T.Mv T.JI.kp T.GS (af (d_v 0) (af (d_v 3) aB))))) aB))))))) (a_ kX) eS) (IX (s_a 2 zC.nd (oG hr rfl rfl T.zB rfl T.JG (yg 1 ["n","things","ties"] ["thing"] (c_n 3 PK rfl rfl) (d_v 1) (fun _ _ _ _ _=>lq) (fun _ _ _ _ _=>(bq (JV T) (Br.hm hr) rfl T.Px T.MB.kp T.JJ (af (d_v 3) aB)))))) (tU (O7 (F1 (nJ rfl T.nQ (af (d_v 2) aB)) (d_g rfl i_)) (tU (y_x (x_raise T.rm UC rfl))) O8)))))))
theorem qH :
  ∀m:Int,cF P' w K mg base (CXF P' w aA) 5 zU qL ["n","things"] (spF aA m (cN m)):=by
 obtain⟨jo,i_⟩:=T.jn;intro m;exact okZ (n:=2) (m:=1) T.CS zC rfl rfl (fun cdv A outer s H E hr=>(E4 (s_e (bq (JU T) (Br.hm hr) rfl T.Mw T.GR.kp T.GU (af (d_v 0) aB))) (E4 (kj (t_w (w_or (gh (gj (ye tQ (by rfl) rfl T.zA rfl T.aa (d_v 1)))) (n5 (gh (gj (EH rfl rfl T.Fp (af (yg 1 ["n","things","ties"] ["thing"] (c_n 3 PN rfl rfl) (d_v 1) (fun _ _ _ _ _=>lq) (fun _ _ _ _ _=>(bq (Fv T) (Br.hm hr) rfl T.Mv T.JI.kp T.GS (af (d_v 0) (af (d_v 3) aB))))) aB))))))) (a_ kX) eS) (E4 (s_a 2 zC.nd (oG hr rfl rfl T.zB rfl T.JG (yg 1 ["n","things","ties"] ["thing"] (c_n 3 PM rfl rfl) (d_v 1) (fun _ _ _ _ _=>lq) (fun _ _ _ _ _=>(bq (JV T) (Br.hm hr) rfl T.Px T.MB.kp T.JJ (af (d_v 3) aB)))))) (E4 (kj (F1 (nJ rfl T.nQ (af (d_v 2) aB)) (d_g rfl i_)) (a_ kX) eS) (Co (Jd (Jc ((lG T) m) (Br.hm hr) rfl T.Sf T.MC.kp T.MD RI (af (d_v 2) aB)))))))))
theorem PX :
  cF P' w K mg base CX0 1 yT qV ["cell","k"] (spD E8):=
 okQ T.Nl Eg fun _ _ _ _ _ _ hr=>(aM (s_a 2 Eg.nd (cD (nG (cC (cC (cD (d_v 0) d_i) (nG d_i (d_v 1))) d_i) d_i) d_i))
  (aM (s_a 2 Eg.nd (cD (cC (cD (nG (d_v 2) (d_v 2)) d_i) (nG d_i (d_v 1))) d_i))
  (a_ (s_r (cD (nG (d_v 2) d_i) d_i)))))
theorem PY :
  cF P' w K mg base CX0 2 yU qW ["cell","many","base"] (spD Cu):=
 okQ T.Nm lF fun _ _ _ _ _ _ hr=>(aM (s_a 3 lF.nd (gg aB))
  (aM (s_a 4 lF.nd (yc (d_v 0) (yd d_i d_i)))
  (aM (Ad V0 rfl (F3 rfl T.k9 (af (d_v 1) aB)) (g_n 5 lF.nd)
  (aM (s_a 6 lF.nd (d_v 4))
  (aM (kj (F1 (d_v 4) d_i) (a_ (s_a 4 lF.nd (tP (d_v 4) (d_v 2)))) (aM (s_a 6 lF.nd d_i)
  (aM (s_a 7 lF.nd d_i)
  (a_ (Th 100 V0 (Tf (nG (d_v 7) d_i) (cC (Ox (d_v 2)) d_i))
  (aM (s_a 6 lF.nd (cC (nG (d_v 6) d_i) (bq (PX T) (Br.hm hr) rfl T.Sg T.Nl.kp T.JK (af (d_v 0) (af (cC (nG d_i (d_v 5)) (d_v 7)) aB)))))
  (a_ (s_a 7 lF.nd (cC (d_v 7) d_i)))))))))
  (a_ (Ac 3 (cD (d_v 6) (d_v 2)))))))
  (a_ (s_r (d_v 3))))))
theorem PZ :
  cF P' w K mg base CX0 1 yV qX ["n","kind","one","other"] (spD E9):=
 okQ T.Nn JS fun _ _ _ _ _ _ hr=>(aM (s_a 4 JS.nd (cD (d_v 2) (d_v 0)))
  (aM (kj (AM hr (d_v 1) d_i) (a_ (s_r (cL (af (d_v 4) (af (cD (d_v 3) (d_v 0)) aB))))) eS)
  (aM (kj (AM hr (d_v 1) d_i) (a_ (s_r (cL (af (cD (d_v 2) (AO rfl rfl T.Ax (af (d_v 0) (af d_i aB)))) (af (cD (d_v 3) (AO rfl rfl T.Ax (af (d_v 0) (af d_i aB)))) aB))))) eS)
  (aM (kj (AM hr (d_v 1) d_i) (a_ (s_r (cL (af (d_v 4) (af (cD (cC (cC (d_v 4) d_i) (tP (cD (d_v 3) d_i) d_i)) (d_v 0)) aB))))) eS)
  (a_ (s_r (cL (af (d_v 4) (af (cD (cC (d_v 4) (nG d_i (cD (d_v 3) (d_v 0)))) (d_v 0)) aB)))))))))
theorem P0 :
  cF P' w K mg base CX0 2 yW qY ["numbers","most"] (spD E_):=
 okQ T.Np kG fun _ _ _ _ _ _ hr=>(aM (s_a 2 kG.nd (cC d_i (cD (bB (d_v 0) d_i) d_i)))
  (aM (kj (AM hr (cD (tP (bB (d_v 0) d_i) d_i) d_i) d_i) (a_ (s_a 2 kG.nd (cC d_i (cD (tP (bB (d_v 0) d_i) d_i) d_i)))) eS)
  (aM (s_a 3 kG.nd (cD (bB (d_v 0) d_i) d_i))
  (aM (kj (AM hr (cD (tP (bB (d_v 0) d_i) d_i) d_i) d_i) (a_ (s_a 3 kG.nd (cC d_i (cD (tP (bB (d_v 0) d_i) d_i) d_i)))) eS)
  (aM (s_a 4 kG.nd (bB (gg (af d_i (af d_i (af (yd d_i d_i) aB)))) (cD (bB (d_v 0) d_i) d_i)))
  (aM (s_a 5 kG.nd (bB (gg (af d_i (af (cD (tP (bB (d_v 0) d_i) d_i) d_i) (af (cD (bB (d_v 0) d_i) (yd d_i d_i)) aB)))) (cD (tP (bB (d_v 0) d_i) d_i) d_i)))
  (aM (s_a 6 kG.nd (gg aB))
  (aM (Ad V0 rfl (F3 rfl T.k9 (af (Ov rfl rfl T.Ax (af (d_v 3) (af (d_v 1) (af (tP (yc (nJ rfl T.nQ (af (d_v 0) aB)) d_i) d_i) aB)))) aB)) (g_n 7 kG.nd)
  (aM (s_u rfl (kI 8 kG.nd (kI 9 kG.nd AQ)) (bq (PZ T) (Br.hm hr) rfl T.Si T.Nn.kp T.JL (af (d_v 2) (af (cD (bB (d_v 0) d_i) d_i) (af (bB (d_v 0) (cC d_i (nG d_i (d_v 7)))) (af (bB (d_v 0) (cC d_i (nG d_i (d_v 7)))) aB))))))
  (aM (Ac 6 (cL (af (d_v 5) (af (AO rfl rfl T.Ax (af (d_v 8) (af (d_v 9) aB))) (af (Ib rfl rfl T.Nk (af (d_v 8) (af (d_v 9) aB))) aB)))))
  (a_ (s_a 5 kG.nd (cC (cC (d_v 5) d_i) (cD (bB (d_v 0) (cC d_i (nG d_i (d_v 7)))) (d_v 4))))))))
  (a_ (s_r (cL (af (d_v 2) (af (d_v 6) aB)))))))))))))
theorem uN :
  cF P' w K mg base CX0 1 eZ dM ["caught"] (spD (i9 ah ak aA ai au aD az av aj aE aq)):=
 okQ T.oZ kK fun _ _ _ _ _ _ hr=>(aM (s_a 1 kK.nd (gg (af (ao (aC T.bF T.oX rfl T.cQ rfl T.aa (d_v 0)) (ao (aC T.b5 T.rX rfl T.cQ rfl T.aa (d_v 0)) (ao (aC T.b7 T.uf rfl T.cQ rfl T.aa (d_v 0)) (ao (aC T.bG T.oU rfl T.cQ rfl T.aa (d_v 0)) (ao (aC T.b8 T.rK rfl T.cQ rfl T.aa (d_v 0)) (ao (aC T.cI T.uu rfl T.cQ rfl T.aa (d_v 0)) (ao (aC T.b9 T.r8 rfl T.cQ rfl T.aa (d_v 0)) (ao (aC T.b_ T.rT rfl T.cQ rfl T.aa (d_v 0)) (ao (aC T.bO T.qE rfl T.cQ rfl T.aa (d_v 0)) (ao (aC T.cJ T.uG rfl T.cQ rfl T.aa (d_v 0)) (ao (aC T.cg T.rA rfl T.cQ rfl T.aa (d_v 0)) mh))))))))))) (af (ao (aC T.bF T.rQ rfl T.fm rfl T.aa (d_v 0)) (ao (aC T.b5 T.v5 rfl T.fm rfl T.aa (d_v 0)) (ao (aC T.b7 T.wR rfl T.fm rfl T.aa (d_v 0)) (ao (aC T.bG T.rG rfl T.fm rfl T.aa (d_v 0)) (ao (aC T.b8 T.vL rfl T.fm rfl T.aa (d_v 0)) (ao (aC T.cI T.w6 rfl T.fm rfl T.aa (d_v 0)) (ao (aC T.b9 T.wc rfl T.fm rfl T.aa (d_v 0)) (ao (aC T.b_ T.vV rfl T.fm rfl T.aa (d_v 0)) (ao (aC T.bO T.uA rfl T.fm rfl T.aa (d_v 0)) (ao (aC T.cJ T.xr rfl T.fm rfl T.aa (d_v 0)) (ao (aC T.cg T.vE rfl T.fm rfl T.aa (d_v 0)) mh))))))))))) (af (ao (aC T.bF T.uC rfl T.ji rfl T.aa (d_v 0)) (ao (aC T.b5 T.xA rfl T.ji rfl T.aa (d_v 0)) (ao (aC T.b7 T.zl rfl T.ji rfl T.aa (d_v 0)) (ao (aC T.bG T.um rfl T.ji rfl T.aa (d_v 0)) (ao (aC T.b8 T.xg rfl T.ji rfl T.aa (d_v 0)) (ao (aC T.cI T.zp rfl T.ji rfl T.aa (d_v 0)) (ao (aC T.b9 T.xD rfl T.ji rfl T.aa (d_v 0)) (ao (aC T.b_ T.xw rfl T.ji rfl T.aa (d_v 0)) (ao (aC T.bO T.vN rfl T.ji rfl T.aa (d_v 0)) (ao (aC T.cJ T.zv rfl T.ji rfl T.aa (d_v 0)) (ao (aC T.cg T.wV rfl T.ji rfl T.aa (d_v 0)) mh))))))))))) aB)))))
  (aM (s_a 1 kK.nd (cC (d_v 1) (gg (af (ao (aC T.bF T.oW rfl T.cP rfl T.aa (d_v 0)) (ao (aC T.b5 T.rW rfl T.cP rfl T.aa (d_v 0)) (ao (aC T.b7 T.ue rfl T.cP rfl T.aa (d_v 0)) (ao (aC T.bG T.oS rfl T.cP rfl T.aa (d_v 0)) (ao (aC T.b8 T.rJ rfl T.cP rfl T.aa (d_v 0)) (ao (aC T.cI T.ur rfl T.cP rfl T.aa (d_v 0)) (ao (aC T.b9 T.rZ rfl T.cP rfl T.aa (d_v 0)) (ao (aC T.b_ T.rS rfl T.cP rfl T.aa (d_v 0)) (ao (aC T.bO T.qD rfl T.cP rfl T.aa (d_v 0)) (ao (aC T.cJ T.uF rfl T.cP rfl T.aa (d_v 0)) (ao (aC T.cg T.rz rfl T.cP rfl T.aa (d_v 0)) mh))))))))))) (af (ao (aC T.bF T.rO rfl T.fh rfl T.aa (d_v 0)) (ao (aC T.b5 T.vY rfl T.fh rfl T.aa (d_v 0)) (ao (aC T.b7 T.wO rfl T.fh rfl T.aa (d_v 0)) (ao (aC T.bG T.rE rfl T.fh rfl T.aa (d_v 0)) (ao (aC T.b8 T.vJ rfl T.fh rfl T.aa (d_v 0)) (ao (aC T.cI T.wZ rfl T.fh rfl T.aa (d_v 0)) (ao (aC T.b9 T.v9 rfl T.fh rfl T.aa (d_v 0)) (ao (aC T.b_ T.vS rfl T.fh rfl T.aa (d_v 0)) (ao (aC T.bO T.uy rfl T.fh rfl T.aa (d_v 0)) (ao (aC T.cJ T.xo rfl T.fh rfl T.aa (d_v 0)) (ao (aC T.cg T.vC rfl T.fh rfl T.aa (d_v 0)) mh))))))))))) (af (ao (aC T.bF T.uD rfl T.jj rfl T.aa (d_v 0)) (ao (aC T.b5 T.xB rfl T.jj rfl T.aa (d_v 0)) (ao (aC T.b7 T.zm rfl T.jj rfl T.aa (d_v 0)) (ao (aC T.bG T.uo rfl T.jj rfl T.aa (d_v 0)) (ao (aC T.b8 T.xh rfl T.jj rfl T.aa (d_v 0)) (ao (aC T.cI T.zq rfl T.jj rfl T.aa (d_v 0)) (ao (aC T.b9 T.xE rfl T.jj rfl T.aa (d_v 0)) (ao (aC T.b_ T.xx rfl T.jj rfl T.aa (d_v 0)) (ao (aC T.bO T.vO rfl T.jj rfl T.aa (d_v 0)) (ao (aC T.cJ T.zw rfl T.jj rfl T.aa (d_v 0)) (ao (aC T.cg T.wW rfl T.jj rfl T.aa (d_v 0)) mh))))))))))) aB))))))
  (aM (s_a 1 kK.nd (cC (d_v 1) (gg (af (ao (aC T.bF T.rR rfl T.fq rfl T.aa (d_v 0)) (ao (aC T.b5 T.v7 rfl T.fq rfl T.aa (d_v 0)) (ao (aC T.b7 T.wU rfl T.fq rfl T.aa (d_v 0)) (ao (aC T.bG T.rH rfl T.fq rfl T.aa (d_v 0)) (ao (aC T.b8 T.vM rfl T.fq rfl T.aa (d_v 0)) (ao (aC T.cI T.w_ rfl T.fq rfl T.aa (d_v 0)) (ao (aC T.b9 T.we rfl T.fq rfl T.aa (d_v 0)) (ao (aC T.b_ T.vW rfl T.fq rfl T.aa (d_v 0)) (ao (aC T.bO T.uB rfl T.fq rfl T.aa (d_v 0)) (ao (aC T.cJ T.xu rfl T.fq rfl T.aa (d_v 0)) (ao (aC T.cg T.vF rfl T.fq rfl T.aa (d_v 0)) mh))))))))))) (af (ao (aC T.bF T.rP rfl T.fk rfl T.aa (d_v 0)) (ao (aC T.b5 T.vZ rfl T.fk rfl T.aa (d_v 0)) (ao (aC T.b7 T.wQ rfl T.fk rfl T.aa (d_v 0)) (ao (aC T.bG T.rF rfl T.fk rfl T.aa (d_v 0)) (ao (aC T.b8 T.vK rfl T.fk rfl T.aa (d_v 0)) (ao (aC T.cI T.w4 rfl T.fk rfl T.aa (d_v 0)) (ao (aC T.b9 T.v_ rfl T.fk rfl T.aa (d_v 0)) (ao (aC T.b_ T.vU rfl T.fk rfl T.aa (d_v 0)) (ao (aC T.bO T.uz rfl T.fk rfl T.aa (d_v 0)) (ao (aC T.cJ T.xq rfl T.fk rfl T.aa (d_v 0)) (ao (aC T.cg T.vD rfl T.fk rfl T.aa (d_v 0)) mh))))))))))) (af (ao (aC T.bF T.qG rfl T.dj rfl T.aa (d_v 0)) (ao (aC T.b5 T.uJ rfl T.dj rfl T.aa (d_v 0)) (ao (aC T.b7 T.vz rfl T.dj rfl T.aa (d_v 0)) (ao (aC T.bG T.qC rfl T.dj rfl T.aa (d_v 0)) (ao (aC T.b8 T.uw rfl T.dj rfl T.aa (d_v 0)) (ao (aC T.cI T.vG rfl T.dj rfl T.aa (d_v 0)) (ao (aC T.b9 T.uK rfl T.dj rfl T.aa (d_v 0)) (ao (aC T.b_ T.uI rfl T.dj rfl T.aa (d_v 0)) (ao (aC T.bO T.rM rfl T.dj rfl T.aa (d_v 0)) (ao (aC T.cJ T.vQ rfl T.dj rfl T.aa (d_v 0)) (ao (aC T.cg T.uh rfl T.dj rfl T.aa (d_v 0)) mh))))))))))) aB))))))
  (a_ (s_r (cC (d_v 1) (gg (af (ao (aC T.bF T.uE rfl T.jm rfl T.aa (d_v 0)) (ao (aC T.b5 T.xC rfl T.jm rfl T.aa (d_v 0)) (ao (aC T.b7 T.zo rfl T.jm rfl T.aa (d_v 0)) (ao (aC T.bG T.uq rfl T.jm rfl T.aa (d_v 0)) (ao (aC T.b8 T.xj rfl T.jm rfl T.aa (d_v 0)) (ao (aC T.cI T.zu rfl T.jm rfl T.aa (d_v 0)) (ao (aC T.b9 T.xF rfl T.jm rfl T.aa (d_v 0)) (ao (aC T.b_ T.xy rfl T.jm rfl T.aa (d_v 0)) (ao (aC T.bO T.vP rfl T.jm rfl T.aa (d_v 0)) (ao (aC T.cJ T.zz rfl T.jm rfl T.aa (d_v 0)) (ao (aC T.cg T.wX rfl T.jm rfl T.aa (d_v 0)) mh))))))))))) (af (ao (aC T.bF T.rN rfl T.ff rfl T.aa (d_v 0)) (ao (aC T.b5 T.vX rfl T.ff rfl T.aa (d_v 0)) (ao (aC T.b7 T.wN rfl T.ff rfl T.aa (d_v 0)) (ao (aC T.bG T.rD rfl T.ff rfl T.aa (d_v 0)) (ao (aC T.b8 T.vH rfl T.ff rfl T.aa (d_v 0)) (ao (aC T.cI T.wY rfl T.ff rfl T.aa (d_v 0)) (ao (aC T.b9 T.v8 rfl T.ff rfl T.aa (d_v 0)) (ao (aC T.b_ T.vR rfl T.ff rfl T.aa (d_v 0)) (ao (aC T.bO T.ux rfl T.ff rfl T.aa (d_v 0)) (ao (aC T.cJ T.xm rfl T.ff rfl T.aa (d_v 0)) (ao (aC T.cg T.vA rfl T.ff rfl T.aa (d_v 0)) mh))))))))))) aB)))))))))
theorem Bt :
  cF P' w K mg base CX0 3 e9 dN [] (spD (k8 ah ak aA ai au aD az av aj aE aq)):=
 okQ T.wG mY fun _ _ _ _ _ _ hr=>(@aM _ _ _ _ _ (@s_a _ _ _ _ 1 _ _ mY.nd (@gg _ _ _ _ (@af _ _ _ _ _ (lz rfl rfl T.uc UC T.CL) (@af _ _ _ _ _ (lz rfl rfl T.rm UC T.GJ) (@af _ _ _ _ _ (Pf rfl rfl T.zj UC (Ay T) (Br.hm hr) T.uM d_i) (@af _ _ _ _ _ (lz rfl rfl T.Bq UC T.CN) (@af _ _ _ _ _ (lz rfl rfl T.Ea UC T.GK) (@af _ _ _ _ _ (lz rfl rfl T.GL UC T.JE) (@af _ _ _ _ _ (lz rfl rfl T.Eb UC T.GN) (@af _ _ _ _ _ (lz rfl rfl T.Ec UC T.GO) (@af _ _ _ _ _ (lz rfl rfl T.CO UC T.Ed) (@af _ _ _ _ _ (lz rfl rfl T.GP UC T.JF) aB rfl) rfl) rfl) rfl) rfl) rfl) rfl) rfl) rfl) rfl)) rfl (by trivial) rfl (by trivial))
  (aM (Ac 1 (lz rfl rfl T.Ef UC T.GQ))
  (aM (Ad V0 rfl (F3 rfl T.k9 (af (nJ rfl T.nQ (af (d_v 1) aB)) aB)) (g_n 2 mY.nd)
  (aM (kj (t_w (w_or (gh (gj (ao (aC T.bF T.oY rfl T.bL rfl T.aa (bB (d_v 1) (d_v 2))) (ao (aC T.b5 T.rY rfl T.bL rfl T.aa (bB (d_v 1) (d_v 2))) (ao (aC T.b7 T.ug rfl T.bL rfl T.aa (bB (d_v 1) (d_v 2))) (ao (aC T.bG T.oV rfl T.bL rfl T.aa (bB (d_v 1) (d_v 2))) (ao (aC T.b8 T.rL rfl T.bL rfl T.aa (bB (d_v 1) (d_v 2))) (ao (aC T.cI T.uv rfl T.bL rfl T.aa (bB (d_v 1) (d_v 2))) (ao (aC T.b9 T.r9 rfl T.bL rfl T.aa (bB (d_v 1) (d_v 2))) (ao (aC T.b_ T.rV rfl T.bL rfl T.aa (bB (d_v 1) (d_v 2))) (ao (aC T.bO T.qF rfl T.bL rfl T.aa (bB (d_v 1) (d_v 2))) (ao (aC T.cJ T.uH rfl T.bL rfl T.aa (bB (d_v 1) (d_v 2))) (ao (aC T.cg T.rB rfl T.bL rfl T.aa (bB (d_v 1) (d_v 2))) mh))))))))))))) (n5 (gh (gj (ao (kQ T.bF T.mX rfl rfl T.bU rfl T.aa (bB (d_v 1) (d_v 2))) (ao (kQ T.b5 T.oO rfl rfl T.bU rfl T.aa (bB (d_v 1) (d_v 2))) (ao (kQ T.b7 T.qz rfl rfl T.bU rfl T.aa (bB (d_v 1) (d_v 2))) (ao (kQ T.bG T.mW rfl rfl T.bU rfl T.aa (bB (d_v 1) (d_v 2))) (ao (kQ T.b8 T.oM rfl rfl T.bU rfl T.aa (bB (d_v 1) (d_v 2))) (ao (kQ T.cI T.qA rfl rfl T.bU rfl T.aa (bB (d_v 1) (d_v 2))) (ao (kQ T.b9 T.oQ rfl rfl T.bU rfl T.aa (bB (d_v 1) (d_v 2))) (ao (kQ T.b_ T.oN rfl rfl T.bU rfl T.aa (bB (d_v 1) (d_v 2))) (ao (kQ T.bO T.nT rfl rfl T.bU rfl T.aa (bB (d_v 1) (d_v 2))) (ao (kQ T.cJ T.qB rfl rfl T.bU rfl T.aa (bB (d_v 1) (d_v 2))) (ao (kQ T.cg T.oK rfl rfl T.bU rfl T.aa (bB (d_v 1) (d_v 2))) mh)))))))))))))))) (a_ (s_r d_b)) eS)
  (a_ (kj (K2 hr (bq (uN T) (Br.hm hr) rfl T.wF T.oZ.kp T.k_ (af (bB (d_v 1) (d_v 2)) aB)) (OA ["0","made","k"] ["j"] (c_n 3 zV rfl rfl) (F3 rfl T.k9 (af (nJ rfl T.nQ (af (d_v 1) aB)) aB)) (fun _ _ _ _ _=>lq) (fun _ _ _ _ _=>(K1 hr (d_v 3) (d_v 2))))) (a_ (s_r d_b)) eS))))
  (a_ (s_r (K1 hr (Nb T.b7.get T.CM T.zk (bB (d_v 1) d_i)) d_i))))))
theorem bV :
  cF P' w K mg base CX0 6 cY cO ["n","things","kind","moment"] (spD (aT ah ak aA ai au aD az av aj aE aq)):=
 okQ T.bP cy fun _ _ _ _ _ _ hr=>(aM (s_a 4 cy.nd d_n)
  (aM (O6 (O9 (fun pn xe=>(a_ (s_e (bq (SJ T) (Br.hm hr) rfl T.Mx T.CS.kp T.GV (af (d_v 0) (af (d_v 1) aB))))))) (O6 (IY (ie:=5) rfl rfl rfl cy.nd rfl rfl rfl T.bL T.oR (fun pn xe E hp=>(tU (y_x (Dr (x_call (mZ T) (Br.hm hr) rfl T.Mx T.CS.kp T.GV hp (af (d_v 0) (af (d_v 1) aB))))))) (fun A' xe=>(a_ (s_a 4 cy.nd (d_v 5))))) (O6 (IY (ie:=5) rfl rfl rfl cy.nd rfl rfl rfl T.bL T.rq (fun pn xe E hp=>(tU (y_x (Dr (x_call (o8 T) (Br.hm hr) rfl T.Mx T.CS.kp T.GV hp (af (d_v 0) (af (d_v 1) aB))))))) (fun A' xe=>(a_ (s_a 4 cy.nd (d_v 5))))) (Pc (fun m=>LX (ie:=5) rfl rfl rfl cy.nd rfl rfl rfl T.bL T.ud (fun pn xe E hp=>(Co (Jd (Jc ((qH T) m) (Br.hm hr) rfl T.Mx T.CS.kp T.GV hp (af (d_v 0) (af (d_v 1) aB)))))) (fun A' xe=>(a_ (s_a 4 cy.nd (d_v 5)))))))))
  (aM (kj (t_w (w_or (Rl (d_v 4) d_n) (n5 (K2 hr (bq (uN T) (Br.hm hr) rfl T.wF T.oZ.kp T.k_ (af (d_v 4) aB)) (OA ["n","things","kind","moment","caught","e"] ["j"] (c_n 6 xG rfl rfl) (F3 rfl T.k9 (af d_i aB)) (fun _ _ _ _ _=>lq) (fun _ _ _ _ _=>(K1 hr (d_v 6) (d_v 2)))))))) (a_ (s_r d_b)) eS)
  (a_ (s_r (Tg (Te hr (d_v 2) d_i) (EE (K1 hr (Nb T.b7.get T.CM T.zk (d_v 4)) (d_v 3)))))))))
theorem P1 :
  cF P' w K mg base CX0 1 yX qZ ["far","number"] (spD Fb):=
 okQ T.Nq PR fun _ _ _ _ _ _ hr=>(a_ (s_r (bB (gg (@af _ _ _ _ _ d_i (@af _ _ _ _ _ d_i (@af _ _ _ _ _ (BQ d_i) (@af _ _ _ _ _ d_b (@af _ _ _ _ _ d_b (@af _ _ _ _ _ d_n (@af _ _ _ _ _ d_s (@af _ _ _ _ _ d_s (@af _ _ _ _ _ (gg (af d_i aB)) (@af _ _ _ _ _ (cL (af d_i aB)) (@af _ _ _ _ _ (cC d_i (d_v 0)) (@af _ _ _ _ _ Ra aB rfl) rfl) rfl) rfl) rfl) rfl) rfl) rfl) rfl) rfl) rfl) rfl)) (cD (d_v 1) d_i))))
theorem P4 :
  cF P' w K mg base CX0 1 yY q_ ["n","far","number"] (spD Fc):=
 okQ T.Nr Bs fun _ _ _ _ _ _ hr=>(@aM _ _ _ _ _ (@s_a _ _ _ _ 3 _ _ Bs.nd (@gg _ _ _ _ (@af _ _ _ _ _ (cL (af d_i (af d_i aB))) (@af _ _ _ _ _ (cL (af d_i (af d_i (af d_i (af d_i aB))))) (@af _ _ _ _ _ (gg (af d_i (af d_i (af d_i aB)))) (@af _ _ _ _ _ d_n (@af _ _ _ _ _ d_i (@af _ _ _ _ _ d_s (@af _ _ _ _ _ (cL aB) (@af _ _ _ _ _ (cL (af d_b (af d_i (af d_i aB)))) (@af _ _ _ _ _ (cL (af d_i (af d_b (af d_i aB)))) (@af _ _ _ _ _ (cL (af d_i (af d_i (af d_b aB)))) aB rfl) rfl) rfl) rfl) rfl) rfl) rfl) rfl) rfl) rfl)) rfl (by trivial) rfl (by trivial))
  (@aM _ _ _ _ _ (@s_a _ _ _ _ 3 _ _ Bs.nd (@cC _ _ _ _ _ _ (d_v 3) (@gg _ _ _ _ (@af _ _ _ _ _ (cL (af (BQ d_i) (af d_i (af d_i aB)))) (@af _ _ _ _ _ (cL (af (yc (BQ d_i) (d_v 1)) (af d_i (af d_i aB)))) (@af _ _ _ _ _ (cL (af (cC (cC (yd d_i d_i) d_i) (d_v 1)) (af d_i (af d_i aB)))) (@af _ _ _ _ _ (cL (af d_i (af (d_v 0) (af d_i aB)))) (@af _ _ _ _ _ (cL (af d_i (af d_i (af (cC (d_v 0) (d_v 1)) aB)))) (@af _ _ _ _ _ (cL (af d_i (af (BQ d_i) (af d_i aB)))) aB rfl) rfl) rfl) rfl) rfl) rfl))) rfl (by trivial) rfl (by trivial))
  (@aM _ _ _ _ _ (@s_a _ _ _ _ 3 _ _ Bs.nd (@cC _ _ _ _ _ _ (d_v 3) (@gg _ _ _ _ (@af _ _ _ _ _ (cL (af d_i (af d_i (af (BQ d_i) aB)))) (@af _ _ _ _ _ (cL (af d_s (af d_i (af d_i aB)))) (@af _ _ _ _ _ (cL (af d_i (af d_n (af d_i aB)))) (@af _ _ _ _ _ (cL (af d_i (af d_i (af d_s aB)))) (@af _ _ _ _ _ (cL (af d_i (af (cL (af d_i aB)) (af d_i aB)))) (@af _ _ _ _ _ (cL (af d_i (af d_i (af (gg (af d_i aB)) aB)))) (@af _ _ _ _ _ d_b (@af _ _ _ _ _ Ra aB rfl) rfl) rfl) rfl) rfl) rfl) rfl) rfl))) rfl (by trivial) rfl (by trivial))
  (a_ (s_r (bB (d_v 3) (cD (d_v 2) d_i)))))))
theorem P5 :
  cF P' w K mg base CX0 1 yZ ri ["n","number"] (spD Fd):=
 okQ T.Nt PV fun _ _ _ _ _ _ hr=>(a_ (s_r (OA ["n","number"] ["k"] (c_n 2 ME rfl rfl) (F3 rfl T.k9 (af (cC d_i (cD (d_v 1) d_i)) aB)) (fun _ _ _ _ _=>lq) (fun _ _ _ _ _=>(cL (af (d_v 2) (af d_i (af d_i aB))))))))
theorem P6 :
  cF P' w K mg base CX0 1 y9 rj ["n","record","numbers"] (spD Cv):=
 okQ T.Nu r_ fun _ _ _ _ _ _ hr=>(aM (s_a 3 r_.nd (Oq rfl T.zA (af (d_v 1) aB)))
  (aM (s_a 4 r_.nd (gg aB))
  (aM (Ad V0 rfl (i_S (d_v 2)) (g_n 5 r_.nd)
  (aM (s_u rfl (kI 6 r_.nd (kI 7 r_.nd (kI 8 r_.nd AQ))) (bB (d_v 1) (cD (d_v 5) (nJ rfl T.nQ (af (d_v 1) aB)))))
  (a_ (kj (t_w (w_and (F1 (d_v 0) d_i) (Ic (Q0 hr (d_v 6) (d_v 4))))) (aM (Ac 4 (d_v 6))
  (a_ (kj (AM hr (d_v 7) (d_v 8)) (a_ (Ac 3 (cL (af (d_v 6) (af (d_v 7) (af (cD (cC (d_v 7) d_i) (d_v 0)) aB)))))) (a_ (Ac 3 (cL (af (d_v 6) (af (d_v 7) (af (d_v 7) aB))))))))) eS))))
  (a_ (s_r (cL (af (d_v 3) (af (d_v 4) aB))))))))
theorem P7 :
  cF P' w K mg base CX0 7 y_ vv ["script"] (spD (yE ah ak aA ai au aD az av aj aE aq)):=
 okQ T.Su jZ fun _ _ _ _ _ _ hr=>(aM (Ad V0 rfl (i_S (cC (Ij (d_v 0) o_n (o_s d_i)) (gg (af (nJ rfl T.nQ (af (d_v 0) aB)) aB)))) (g_n 1 jZ.nd)
  (aM (s_a 2 jZ.nd (bq (PY T) (Br.hm hr) rfl T.Sh T.Nm.kp T.JM (af (d_v 1) (af d_i (af (yd d_i d_i) aB)))))
  (aM (s_u rfl (kI 3 jZ.nd (kI 4 jZ.nd AQ)) (bq (P0 T) (Br.hm hr) rfl T.Sj T.Np.kp T.JN (af (Ij (d_v 2) (o_s d_i) o_n) (af d_i aB))))
  (aM (s_a 5 jZ.nd (bq (P4 T) (Br.hm hr) rfl T.Sm T.Nr.kp T.JP (af (d_v 3) (af (cD (bB (d_v 2) d_i) (yd d_i d_i)) (af (bB (d_v 2) d_i) aB)))))
  (aM (s_a 6 jZ.nd (cD (bB (d_v 2) d_i) (cC (nJ rfl T.nQ (af (d_v 4) aB)) d_i)))
  (aM (s_a 7 jZ.nd (cC (cC (Ij (d_v 4) o_n (o_s (d_v 6))) (gg (af (d_v 5) aB))) (Ij (d_v 4) (o_s (d_v 6)) o_n)))
  (aM (s_a 8 jZ.nd (bq (P1 T) (Br.hm hr) rfl T.Sk T.Nq.kp T.JO (af (bB (d_v 2) d_i) (af (bB (d_v 2) d_i) aB))))
  (aM (kj (t_w (w_or (gh (gj (bq (bV T) (Br.hm hr) rfl T.cj T.bP.kp T.bK (af (d_v 8) (af (d_v 7) (af d_i (af d_i aB))))))) (n5 (gh (gj (bq (bV T) (Br.hm hr) rfl T.cj T.bP.kp T.bK (af (d_v 8) (af (d_v 4) (af d_i (af d_i aB)))))))))) (a_ (s_r d_b)) eS)
  (aM (s_a 9 jZ.nd (bB (gg (af (K3 rfl T.Fq (af (d_v 4) aB)) (af d_n (af d_s (af d_i aB))))) (cD (bB (d_v 2) d_i) d_i)))
  (aM (kj (t_w (w_or (gh (gj (bq (bV T) (Br.hm hr) rfl T.cj T.bP.kp T.bK (af (d_v 3) (af (d_v 7) (af d_i (af d_i aB))))))) (n5 (gh (gj (bq (bV T) (Br.hm hr) rfl T.cj T.bP.kp T.bK (af (d_v 3) (af (d_v 9) (af d_i (af d_i aB)))))))))) (a_ (s_r d_b)) eS)
  (aM (kj (gh (gj (bq (bV T) (Br.hm hr) rfl T.cj T.bP.kp T.bK (af (d_v 3) (af (bq (P5 T) (Br.hm hr) rfl T.Sn T.Nt.kp T.JQ (af (d_v 3) (af (bB (d_v 2) d_i) aB))) (af d_i (af d_i aB))))))) (a_ (s_r d_b)) eS)
  (a_ (kj (t_w (w_and (K2 hr (d_v 4) (gg aB)) (Ic (F1 (d_v 3) d_i)))) (aM (s_u rfl (kI 10 jZ.nd (kI 11 jZ.nd AQ)) (bq (P6 T) (Br.hm hr) rfl T.So T.Nu.kp T.JR (af (d_v 3) (af (d_v 4) (af (Ij (d_v 2) (o_s d_i) (o_s d_i)) aB)))))
  (aM (s_a 12 jZ.nd (OZ rfl rfl T.Ax (af (d_v 11) aB)))
  (aM (kj (t_w (w_or (gh (gj (bq (bV T) (Br.hm hr) rfl T.cj T.bP.kp T.bK (af (d_v 3) (af (d_v 10) (af d_i (af (d_v 12) aB))))))) (n5 (gh (gj (bq (bV T) (Br.hm hr) rfl T.cj T.bP.kp T.bK (af (d_v 3) (af (Q9 (d_v 10)) (af d_i (af (d_v 12) aB)))))))))) (a_ (s_r d_b)) eS)
  (a_ (kj (t_w (w_or (gh (gj (bq (bV T) (Br.hm hr) rfl T.cj T.bP.kp T.bK (af (d_v 3) (af (cC (d_v 10) (gg (af (d_v 5) aB))) (af d_i (af d_i aB))))))) (n5 (gh (gj (bq (bV T) (Br.hm hr) rfl T.cj T.bP.kp T.bK (af (d_v 8) (af (d_v 10) (af d_i (af d_i aB)))))))))) (a_ (s_r d_b)) eS))))) eS)))))))))))))
  (a_ (s_r (LZ (Bt T) (Br.hm hr) rfl T.CQ T.wG.kp T.o7))))
end
theorem all_mk{l:XY}{w:World}{K:gc}{h:Heap}{mg:Str->Option Value}{fa D4 D5 D6 D7 D8 D9 CJ D_ CK zU yT yU yV yW eZ e9 cY yX yY yZ y9 y_ aA aq ai aD au aj ah aE av ak aF az e_:Addr}{zb zc zd ze zf zg wC zh wD qL qV qW qX qY dM dN cO qZ q_ ri rj vv:FuncData}(X:K.In h)(G:h.Ns mainGlobals mg)(hfa:mg "law" = some (.ref fa))
  {jo:Tok}
  {GX GY:Option Addr} {GZ:Array (Option Value)} {G0 G1 G3 G4 Az G5:Value}
  (JX:jY K "is_whole" (top 14) D4 zb)
  (JY:jY K "is_within" (top 15) D5 zc)
  (JZ:jY K "is_places" (top 16) D6 zd)
  (J0:jY K "is_place" (top 17) D7 ze)
  (J2:jY K "is_moment" (top 18) D8 zf)
  (J3:jY K "is_tie_either_way" (top 19) D9 zg)
  (J4:jY K "look_at_places" (top 20) CJ wC)
  (J_:jY K "put_in_order" (top 24) D_ zh)
  (Ka:jY K "look_for_clash" (top 25) CK wD)
  (Kc:jY K "record_of" (top 23) zU qL)
  (CT:jY K "_law_mixed" (top 27) yT qV)
  (CU:jY K "_law_numbers" (top 28) yU qW)
  (CV:jY K "_law_ends" (top 29) yV qX)
  (CW:jY K "_law_record" (top 30) yW qY)
  (kB:jY K "_law_marks" (top 31) eZ dM)
  (kC:jY K "_law_apart" (top 32) e9 dN)
  (gY:jY K "_law_refused" (top 33) cY cO)
  (CY:jY K "_law_no_places" (top 34) yX qZ)
  (CZ:jY K "_law_no_tie" (top 35) yY q_)
  (C0:jY K "_law_many" (top 36) yZ ri)
  (C1:jY K "_law_clashed" (top 37) y9 rj)
  (AA:jY K "law" (top 38) y_ vv)
  (m5:UQ K mainGlobals "ValueError" = some none)
  (Kd:UQ K mainGlobals "all" = some none)
  (Eh:UQ K mainGlobals "bool" = some none)
  (Ke:UQ K mainGlobals "int" = some none)
  (m7:UQ K mainGlobals "isinstance" = some none)
  (Kf:UQ K mainGlobals "len" = some none)
  (Ei:UQ K mainGlobals "list" = some none)
  (Kg:UQ K mainGlobals "max" = some none)
  (Kh:UQ K mainGlobals "min" = some none)
  (Bu:UQ K mainGlobals "range" = some none)
  (Kl:UQ K mainGlobals "set" = some none)
  (zD:UQ K mainGlobals "sorted" = some none)
  (Bv:UQ K mainGlobals "tuple" = some none)
  (o9:UQ K mainGlobals "MOST_TIES" = some (some (.int 60 jo)))
  (xR:UQ K mainGlobals "Clash" = some (some (.ref aA)))
  (uO:UQ K mainGlobals "NoDeed" = some (some (.ref aq)))
  (m8:UQ K mainGlobals "NoLayers" = some (some (.ref ai)))
  (xT:UQ K mainGlobals "NoNet" = some (some (.ref aD)))
  (uP:UQ K mainGlobals "NoPair" = some (some (.ref au)))
  (qw:UQ K mainGlobals "NoPaper" = some (some (.ref aj)))
  (m9:UQ K mainGlobals "NoPlaces" = some (some (.ref ah)))
  (xU:UQ K mainGlobals "NoRow" = some (some (.ref aE)))
  (uQ:UQ K mainGlobals "NoText" = some (some (.ref av)))
  (uR:UQ K mainGlobals "NoTies" = some (some (.ref ak)))
  (sd:UQ K mainGlobals "PlyError" = some (some (.ref aF)))
  (uS:UQ K mainGlobals "Unlike" = some (some (.ref az)))
  (kT:VA K ah bmV "ValueError.__new__" = true)
  (lH:Ut K (.ref ah)=true)
  (lI:Ug K (.ref ah) "__getattribute__" = some (some (.builtin "BaseException.__getattribute__")))
  (lJ:Ug K (.ref ah) "__getattr__" = some none)
  (lN:Ug K (.ref ah) "__class__" = some (some (.builtin "object.__class__")))
  (lO:UR K ah (.type "BaseException")=some true)
  (lP:UR K ah (.type "object")=some true)
  (lQ:(Vt K ah).isSome=true)
  (ng:VA K ak bmV "ValueError.__new__" = true)
  (o_:Ut K (.ref ak)=true)
  (pq:Ug K (.ref ak) "__getattribute__" = some (some (.builtin "BaseException.__getattribute__")))
  (pA:Ug K (.ref ak) "__getattr__" = some none)
  (pB:Ug K (.ref ak) "__class__" = some (some (.builtin "object.__class__")))
  (pC:UR K ak (.type "BaseException")=some true)
  (pD:UR K ak (.type "object")=some true)
  (pF:(Vt K ak).isSome=true)
  (pG:Ug K (.ref aA) "__init__" = some (some (.ref e_)))
  (pH:K.lookup e_=some ⟨G0,GX,.func (Vb "__init__" "Clash.__init__" (cR kN) (bR kN) (aG kN) .none G1 G3 G4 GY Az G5),GZ⟩) (pI:WX K Az "Clash.__init__" = true) (pJ:Ut K (.ref e_)=true)
  (se:Ut K (.ref aA)=true)
  (sf:Xy K (.ref e_)=some (.type "function"))
  (pK:PySem.W.isI K aA e_ bmV "ValueError.__new__" = true)
  (sj:W2 K aA=true)
  (sq:Ug K (.ref aA) "moment" = some none)
  (su:Ug K (.ref aA) "__setattr__" = some (some (.builtin "object.__setattr__")))
  (sC:W3 K (.ref aF) "__getattribute__" = some (some (.builtin "type.__getattribute__")))
  (sD:X3 K aF (.type "type")=true)
  (sF:X4 K (.ref aF) (.type "type") "__init__" = some (.val (.builtin "ValueError.__init__")))
  (sG:Ug K (.ref aA) "__getattribute__" = some (some (.builtin "BaseException.__getattribute__")))
  (sH:Ug K (.ref aA) "__getattr__" = some none)
  (sI:Ug K (.ref aA) "__class__" = some (some (.builtin "object.__class__")))
  (sJ:UR K aA (.type "BaseException")=some true)
  (sL:UR K aA (.type "object")=some true)
  (sM:(Vt K aA).isSome=true)
  (kU:VA K ai bmV "ValueError.__new__" = true)
  (lR:Ut K (.ref ai)=true)
  (lS:Ug K (.ref ai) "__getattribute__" = some (some (.builtin "BaseException.__getattribute__")))
  (lU:Ug K (.ref ai) "__getattr__" = some none)
  (lV:Ug K (.ref ai) "__class__" = some (some (.builtin "object.__class__")))
  (lW:UR K ai (.type "BaseException")=some true)
  (lX:UR K ai (.type "object")=some true)
  (lY:(Vt K ai).isSome=true)
  (ni:VA K au bmV "ValueError.__new__" = true)
  (pL:Ut K (.ref au)=true)
  (pM:Ug K (.ref au) "__getattribute__" = some (some (.builtin "BaseException.__getattribute__")))
  (pN:Ug K (.ref au) "__getattr__" = some none)
  (pO:Ug K (.ref au) "__class__" = some (some (.builtin "object.__class__")))
  (pP:UR K au (.type "BaseException")=some true)
  (pQ:UR K au (.type "object")=some true)
  (pR:(Vt K au).isSome=true)
  (pS:VA K aD bmV "ValueError.__new__" = true)
  (sN:Ut K (.ref aD)=true)
  (sO:Ug K (.ref aD) "__getattribute__" = some (some (.builtin "BaseException.__getattribute__")))
  (sP:Ug K (.ref aD) "__getattr__" = some none)
  (sQ:Ug K (.ref aD) "__class__" = some (some (.builtin "object.__class__")))
  (sS:UR K aD (.type "BaseException")=some true)
  (sV:UR K aD (.type "object")=some true)
  (sW:(Vt K aD).isSome=true)
  (nj:VA K az bmV "ValueError.__new__" = true)
  (pT:Ut K (.ref az)=true)
  (pU:Ug K (.ref az) "__getattribute__" = some (some (.builtin "BaseException.__getattribute__")))
  (pV:Ug K (.ref az) "__getattr__" = some none)
  (pW:Ug K (.ref az) "__class__" = some (some (.builtin "object.__class__")))
  (pX:UR K az (.type "BaseException")=some true)
  (pY:UR K az (.type "object")=some true)
  (pZ:(Vt K az).isSome=true)
  (nk:VA K av bmV "ValueError.__new__" = true)
  (p5:Ut K (.ref av)=true)
  (p6:Ug K (.ref av) "__getattribute__" = some (some (.builtin "BaseException.__getattribute__")))
  (p7:Ug K (.ref av) "__getattr__" = some none)
  (p8:Ug K (.ref av) "__class__" = some (some (.builtin "object.__class__")))
  (p9:UR K av (.type "BaseException")=some true)
  (p_:UR K av (.type "object")=some true)
  (qc:(Vt K av).isSome=true)
  (lZ:VA K aj bmV "ValueError.__new__" = true)
  (nq:Ut K (.ref aj)=true)
  (nt:Ug K (.ref aj) "__getattribute__" = some (some (.builtin "BaseException.__getattribute__")))
  (nu:Ug K (.ref aj) "__getattr__" = some none)
  (nv:Ug K (.ref aj) "__class__" = some (some (.builtin "object.__class__")))
  (nA:UR K aj (.type "BaseException")=some true)
  (nB:UR K aj (.type "object")=some true)
  (nC:(Vt K aj).isSome=true)
  (qe:VA K aE bmV "ValueError.__new__" = true)
  (sX:Ut K (.ref aE)=true)
  (sY:Ug K (.ref aE) "__getattribute__" = some (some (.builtin "BaseException.__getattribute__")))
  (sZ:Ug K (.ref aE) "__getattr__" = some none)
  (s_:Ug K (.ref aE) "__class__" = some (some (.builtin "object.__class__")))
  (tu:UR K aE (.type "BaseException")=some true)
  (tw:UR K aE (.type "object")=some true)
  (tE:(Vt K aE).isSome=true)
  (nD:VA K aq bmV "ValueError.__new__" = true)
  (qf:Ut K (.ref aq)=true)
  (qg:Ug K (.ref aq) "__getattribute__" = some (some (.builtin "BaseException.__getattribute__")))
  (qh:Ug K (.ref aq) "__getattr__" = some none)
  (qi:Ug K (.ref aq) "__class__" = some (some (.builtin "object.__class__")))
  (qj:UR K aq (.type "BaseException")=some true)
  (qk:UR K aq (.type "object")=some true)
  (ql:(Vt K aq).isSome=true)
  (ez:eg K (.ref aA) (.type "ValueError")=some true)
  (dO:eg K (.ref aq) (.type "ValueError")=some true)
  (cZ:eg K (.ref ai) (.type "ValueError")=some true)
  (eE:eg K (.ref aD) (.type "ValueError")=some true)
  (dP:eg K (.ref au) (.type "ValueError")=some true)
  (dw:eg K (.ref aj) (.type "ValueError")=some true)
  (c_:eg K (.ref ah) (.type "ValueError")=some true)
  (eG:eg K (.ref aE) (.type "ValueError")=some true)
  (dQ:eg K (.ref av) (.type "ValueError")=some true)
  (dR:eg K (.ref ak) (.type "ValueError")=some true)
  (dS:eg K (.ref az) (.type "ValueError")=some true)
  (gZ:Xy K (.ref aF)=some (.type "type"))
  (g6:(Vt K aF).isSome=true)
  (g7:UR K aF (.type "BaseException")=some true)
  (gp:UR K aA (.ref aF)=some true)
  (dU:UR K ah (.ref aF)=some true)
  (fu:UR K ak (.ref aF)=some true)
  (j3:eg K (.ref aA) (.ref aA)=some true)
  (jq:eg K (.ref aA) (.ref aq)=some false)
  (gq:eg K (.ref aA) (.ref ai)=some false)
  (j4:eg K (.ref aA) (.ref aD)=some false)
  (jr:eg K (.ref aA) (.ref au)=some false)
  (g_:eg K (.ref aA) (.ref aj)=some false)
  (gu:eg K (.ref aA) (.ref ah)=some false)
  (j5:eg K (.ref aA) (.ref aE)=some false)
  (jt:eg K (.ref aA) (.ref av)=some false)
  (ju:eg K (.ref aA) (.ref ak)=some false)
  (gv:eg K (.ref aA) (.ref aF)=some true)
  (jv:eg K (.ref aA) (.ref az)=some false)
  (jx:eg K (.ref aq) (.ref aA)=some false)
  (h_:eg K (.ref aq) (.ref aq)=some true)
  (fy:eg K (.ref aq) (.ref ai)=some false)
  (jy:eg K (.ref aq) (.ref aD)=some false)
  (ia:eg K (.ref aq) (.ref au)=some false)
  (gx:eg K (.ref aq) (.ref aj)=some false)
  (fB:eg K (.ref aq) (.ref ah)=some false)
  (jz:eg K (.ref aq) (.ref aE)=some false)
  (ic:eg K (.ref aq) (.ref av)=some false)
  (ig:eg K (.ref aq) (.ref ak)=some false)
  (fC:eg K (.ref aq) (.ref aF)=some true)
  (ir:eg K (.ref aq) (.ref az)=some false)
  (gy:eg K (.ref ai) (.ref aA)=some false)
  (fD:eg K (.ref ai) (.ref aq)=some false)
  (dW:eg K (.ref ai) (.ref ai)=some true)
  (gA:eg K (.ref ai) (.ref aD)=some false)
  (fE:eg K (.ref ai) (.ref au)=some false)
  (eH:eg K (.ref ai) (.ref aj)=some false)
  (dX:eg K (.ref ai) (.ref ah)=some false)
  (gB:eg K (.ref ai) (.ref aE)=some false)
  (fF:eg K (.ref ai) (.ref av)=some false)
  (fG:eg K (.ref ai) (.ref ak)=some false)
  (dY:eg K (.ref ai) (.ref aF)=some true)
  (fH:eg K (.ref ai) (.ref az)=some false)
  (j6:eg K (.ref aD) (.ref aA)=some false)
  (jA:eg K (.ref aD) (.ref aq)=some false)
  (gC:eg K (.ref aD) (.ref ai)=some false)
  (j7:eg K (.ref aD) (.ref aD)=some true)
  (jB:eg K (.ref aD) (.ref au)=some false)
  (iu:eg K (.ref aD) (.ref aj)=some false)
  (gD:eg K (.ref aD) (.ref ah)=some false)
  (j8:eg K (.ref aD) (.ref aE)=some false)
  (jC:eg K (.ref aD) (.ref av)=some false)
  (jD:eg K (.ref aD) (.ref ak)=some false)
  (gE:eg K (.ref aD) (.ref aF)=some true)
  (jE:eg K (.ref aD) (.ref az)=some false)
  (jF:eg K (.ref au) (.ref aA)=some false)
  (iw:eg K (.ref au) (.ref aq)=some false)
  (fJ:eg K (.ref au) (.ref ai)=some false)
  (jG:eg K (.ref au) (.ref aD)=some false)
  (iz:eg K (.ref au) (.ref au)=some true)
  (gF:eg K (.ref au) (.ref aj)=some false)
  (fK:eg K (.ref au) (.ref ah)=some false)
  (jH:eg K (.ref au) (.ref aE)=some false)
  (iA:eg K (.ref au) (.ref av)=some false)
  (iB:eg K (.ref au) (.ref ak)=some false)
  (fL:eg K (.ref au) (.ref aF)=some true)
  (iC:eg K (.ref au) (.ref az)=some false)
  (iD:eg K (.ref aj) (.ref aA)=some false)
  (gG:eg K (.ref aj) (.ref aq)=some false)
  (eK:eg K (.ref aj) (.ref ai)=some false)
  (iE:eg K (.ref aj) (.ref aD)=some false)
  (gH:eg K (.ref aj) (.ref au)=some false)
  (fM:eg K (.ref aj) (.ref aj)=some true)
  (eL:eg K (.ref aj) (.ref ah)=some false)
  (iF:eg K (.ref aj) (.ref aE)=some false)
  (gI:eg K (.ref aj) (.ref av)=some false)
  (gJ:eg K (.ref aj) (.ref ak)=some false)
  (eN:eg K (.ref aj) (.ref aF)=some true)
  (gK:eg K (.ref aj) (.ref az)=some false)
  (gM:eg K (.ref ah) (.ref aA)=some false)
  (fN:eg K (.ref ah) (.ref aq)=some false)
  (dZ:eg K (.ref ah) (.ref ai)=some false)
  (gO:eg K (.ref ah) (.ref aD)=some false)
  (fO:eg K (.ref ah) (.ref au)=some false)
  (eO:eg K (.ref ah) (.ref aj)=some false)
  (d_:eg K (.ref ah) (.ref ah)=some true)
  (gP:eg K (.ref ah) (.ref aE)=some false)
  (fP:eg K (.ref ah) (.ref av)=some false)
  (fQ:eg K (.ref ah) (.ref ak)=some false)
  (ee:eg K (.ref ah) (.ref aF)=some true)
  (fR:eg K (.ref ah) (.ref az)=some false)
  (j9:eg K (.ref aE) (.ref aA)=some false)
  (jI:eg K (.ref aE) (.ref aq)=some false)
  (gQ:eg K (.ref aE) (.ref ai)=some false)
  (j_:eg K (.ref aE) (.ref aD)=some false)
  (jJ:eg K (.ref aE) (.ref au)=some false)
  (iG:eg K (.ref aE) (.ref aj)=some false)
  (gR:eg K (.ref aE) (.ref ah)=some false)
  (kg:eg K (.ref aE) (.ref aE)=some true)
  (jK:eg K (.ref aE) (.ref av)=some false)
  (jL:eg K (.ref aE) (.ref ak)=some false)
  (gS:eg K (.ref aE) (.ref aF)=some true)
  (jM:eg K (.ref aE) (.ref az)=some false)
  (jN:eg K (.ref av) (.ref aA)=some false)
  (iH:eg K (.ref av) (.ref aq)=some false)
  (fS:eg K (.ref av) (.ref ai)=some false)
  (jO:eg K (.ref av) (.ref aD)=some false)
  (iI:eg K (.ref av) (.ref au)=some false)
  (gT:eg K (.ref av) (.ref aj)=some false)
  (fT:eg K (.ref av) (.ref ah)=some false)
  (jP:eg K (.ref av) (.ref aE)=some false)
  (iJ:eg K (.ref av) (.ref av)=some true)
  (iK:eg K (.ref av) (.ref ak)=some false)
  (fU:eg K (.ref av) (.ref aF)=some true)
  (iM:eg K (.ref av) (.ref az)=some false)
  (jQ:eg K (.ref ak) (.ref aA)=some false)
  (iN:eg K (.ref ak) (.ref aq)=some false)
  (fV:eg K (.ref ak) (.ref ai)=some false)
  (jR:eg K (.ref ak) (.ref aD)=some false)
  (iO:eg K (.ref ak) (.ref au)=some false)
  (gU:eg K (.ref ak) (.ref aj)=some false)
  (fW:eg K (.ref ak) (.ref ah)=some false)
  (jS:eg K (.ref ak) (.ref aE)=some false)
  (iP:eg K (.ref ak) (.ref av)=some false)
  (iQ:eg K (.ref ak) (.ref ak)=some true)
  (fX:eg K (.ref ak) (.ref aF)=some true)
  (iR:eg K (.ref ak) (.ref az)=some false)
  (jT:eg K (.ref az) (.ref aA)=some false)
  (iU:eg K (.ref az) (.ref aq)=some false)
  (fY:eg K (.ref az) (.ref ai)=some false)
  (jU:eg K (.ref az) (.ref aD)=some false)
  (iV:eg K (.ref az) (.ref au)=some false)
  (gW:eg K (.ref az) (.ref aj)=some false)
  (fZ:eg K (.ref az) (.ref ah)=some false)
  (jV:eg K (.ref az) (.ref aE)=some false)
  (iW:eg K (.ref az) (.ref av)=some false)
  (iX:eg K (.ref az) (.ref ak)=some false)
  (f_:eg K (.ref az) (.ref aF)=some true)
  (iY:eg K (.ref az) (.ref az)=some true) :
  ∃fd:FuncData,(∀(s:Shared) (v:Value),BindsTo s fd ⟨[v],[]⟩ [("script",v)])/\∀base:Heap,K.In base->base.Ns mainGlobals mg->cF l.prog w K mg base CX0 7 fa fd ["script"] (spD (yE ah ak aA ai au aD az av aj aE aq)):=by
 have e:=hfa.symm.trans (AA.m X G);cases e;have Py:=JX.F.qR (ps:=["thing"]) rfl fun _ _ _ _ _ _ _=>rfl;have JH:=JY.F.AZ (ps:=["thing","low","high"]) rfl fun _ _ _ _ _ _ _ _ _=>rfl;have MA:=JZ.F.qR (ps:=["thing"]) rfl fun _ _ _ _ _ _ _=>rfl;have Mz:=J0.F.oi (ps:=["n","thing"]) rfl fun _ _ _ _ _ _ _ _=>rfl;have PC:=J2.F.qR (ps:=["thing"]) rfl fun _ _ _ _ _ _ _=>rfl;have GS:=J3.F.oi (ps:=["n","thing"]) rfl fun _ _ _ _ _ _ _ _=>rfl;have GU:=J4.F.qR (ps:=["n"]) rfl fun _ _ _ _ _ _ _=>rfl;have JJ:=J_.F.qR (ps:=["thing"]) rfl fun _ _ _ _ _ _ _=>rfl;have MD:=Ka.F.qR (ps:=["ties"]) rfl fun _ _ _ _ _ _ _=>rfl;have GV:=Kc.F.oi (ps:=["n","things"]) rfl fun _ _ _ _ _ _ _ _=>rfl;have JK:=CT.F.oi (ps:=["cell","k"]) rfl fun _ _ _ _ _ _ _ _=>rfl;have JM:=CU.F.AZ (ps:=["cell","many","base"]) rfl fun _ _ _ _ _ _ _ _ _=>rfl;have JL:=CV.F.IA (ps:=["n","kind","one","other"]) rfl fun _ _ _ _ _ _ _ _ _ _=>rfl;have JN:=CW.F.oi (ps:=["numbers","most"]) rfl fun _ _ _ _ _ _ _ _=>rfl;have k_:=kB.F.qR (ps:=["caught"]) rfl fun _ _ _ _ _ _ _=>rfl;have o7:=kC.F.OY (ps:=[]) rfl fun _ _ _ _ _ _=>rfl;have bK:=gY.F.IA (ps:=["n","things","kind","moment"]) rfl fun _ _ _ _ _ _ _ _ _ _=>rfl;have JO:=CY.F.oi (ps:=["far","number"]) rfl fun _ _ _ _ _ _ _ _=>rfl;have JP:=CZ.F.AZ (ps:=["n","far","number"]) rfl fun _ _ _ _ _ _ _ _ _=>rfl;have JQ:=C0.F.oi (ps:=["n","number"]) rfl fun _ _ _ _ _ _ _ _=>rfl;have JR:=C1.F.AZ (ps:=["n","record","numbers"]) rfl fun _ _ _ _ _ _ _ _ _=>rfl;have uL:=HG (st:=kN) pH pI pJ;have uM:=uL.oi (ps:=["self","moment"]) rfl fun _ _ _ _ _ _ _ _=>rfl;refine⟨_,fun s v=>AA.Tz (fun _ _ _ _ _ _ _=>rfl) s v,fun base Xb _=>?_⟩;have T:Txt mg K base ..:=⟨mgo X G xR,mgo X G uO,mgo X G m8,mgo X G xT,mgo X G uP,mgo X G qw,mgo X G m9,mgo X G xU,mgo X G uQ,mgo X G uR,mgo X G sd,mgo X G uS,gX Xb (mgo X G m9) kT,⟨⟨lI,lJ,lN,lO,lP⟩,lQ⟩,lH,gX Xb (mgo X G uR) ng,⟨⟨pq,pA,pB,pC,pD⟩,pF⟩,o_,LR Xb (mgo X G xR) se pG sf pK,sj,sq,su,sC,sD,sF,⟨⟨sG,sH,sI,sJ,sL⟩,sM⟩,gX Xb (mgo X G m8) kU,⟨⟨lS,lU,lV,lW,lX⟩,lY⟩,lR,gX Xb (mgo X G uP) ni,⟨⟨pM,pN,pO,pP,pQ⟩,pR⟩,pL,gX Xb (mgo X G xT) pS,⟨⟨sO,sP,sQ,sS,sV⟩,sW⟩,sN,gX Xb (mgo X G uS) nj,⟨⟨pU,pV,pW,pX,pY⟩,pZ⟩,pT,gX Xb (mgo X G uQ) nk,⟨⟨p6,p7,p8,p9,p_⟩,qc⟩,p5,gX Xb (mgo X G qw) lZ,⟨⟨nt,nu,nv,nA,nB⟩,nC⟩,nq,gX Xb (mgo X G xU) qe,⟨⟨sY,sZ,s_,tu,tw⟩,tE⟩,sX,gX Xb (mgo X G uO) nD,⟨⟨qg,qh,qi,qj,qk⟩,ql⟩,qf,ez,dO,cZ,eE,dP,dw,c_,eG,dQ,dR,dS,⟨gZ,g6,g7,gp⟩,⟨gZ,g6,g7,dU⟩,⟨gZ,g6,g7,fu⟩,j3,jq,gq,j4,jr,g_,gu,j5,jt,ju,gv,jv,jx,h_,fy,jy,ia,gx,fB,jz,ic,ig,fC,ir,gy,fD,dW,gA,fE,eH,dX,gB,fF,fG,dY,fH,j6,jA,gC,j7,jB,iu,gD,j8,jC,jD,gE,jE,jF,iw,fJ,jG,iz,gF,fK,jH,iA,iB,fL,iC,iD,gG,eK,iE,gH,fM,eL,iF,gI,gJ,eN,gK,gM,fN,dZ,gO,fO,eO,d_,gP,fP,fQ,ee,fR,j9,jI,gQ,j_,jJ,iG,gR,kg,jK,jL,gS,jM,jN,iH,fS,jO,iI,gT,fT,jP,iJ,iK,fU,iM,jQ,iN,fV,jR,iO,gU,fW,jS,iP,iQ,fX,iR,jT,iU,fY,jU,iV,gW,fZ,jV,iW,iX,f_,iY,mno X G m5,mno X G Kd,mno X G Eh,mno X G Ke,mno X G m7,mno X G Kf,mno X G Ei,mno X G Kg,mno X G Kh,mno X G Bu,mno X G Kl,mno X G zD,mno X G Bv,⟨_,mgo X G o9⟩,JX.m X G,JY.m X G,JZ.m X G,J0.m X G,J2.m X G,J3.m X G,J4.m X G,J_.m X G,Ka.m X G,Kc.m X G,CT.m X G,CU.m X G,CV.m X G,CW.m X G,kB.m X G,kC.m X G,gY.m X G,CY.m X G,CZ.m X G,C0.m X G,C1.m X G,AA.m X G,uL,JX.F,Py,JY.F,JH,JZ.F,J0.F,J2.F,Mz,PC,J3.F,MA,J4.F,J_.F,Ka.F,uM,GS,GU,JJ,MD,Kc.F,CT.F,JK,CU.F,CV.F,JL,CW.F,kB.F,k_,kC.F,GV,gY.F,CY.F,CZ.F,C0.F,C1.F,JM,JN,o7,bK,JO,JP,JQ,JR,AA.F⟩
 exact P7 T
theorem walk{aH aN aU aI aP aY aQ aR aK aZ aS:Nat}{l:XY}{q:Program}{loose:List Str}{XP:(Str->Option Value)->Heap->Prop}{YP:World->Heap->Prop}{d:DefRec}{K:Params->gc}(hn:l.most=some 63)(hdf:d.params.defaults=[])
  (hY:∀(w:World) (h:Heap),YP w h->(K w.params).In h) (M:∀ns:List Int,ns.length<=63->yE aH aN aU aI aP aY aQ aR aK aZ aS [.lst (ns.map Dat.int)]=some (.val (.bl true))) (hK:∀w:World,Ik (K w.params)=true)
  (F:∀ (w:World) (mg:Str→Option Value) (fa:Addr) (h:Heap),(K w.params).In h→h.Ns mainGlobals mg→mg d.name=some (.ref fa) →
   ∃fd:FuncData,(∀(s:Shared) (u:Value),BindsTo s fd ⟨[u],[]⟩ [("script",u)])/\∀base:Heap,(K w.params).In base->base.Ns mainGlobals mg->cF l.prog w (K w.params) mg base CX0 7 fa fd ["script"] (spD (yE aH aN aU aI aP aY aQ aR aK aZ aS))) :
  PySem.W.WalkO q loose XP YP l.row.toRowW d [] (fun f vs=>PySem.call f vs):=
 L2.KH (n:=63) (k:=7) (x := "script") (CX:=fun _=>CX0) (sp:=fun _=>spD (yE aH aN aU aI aP aY aQ aR aK aZ aS)) hn (by decide) hdf ⟨rfl,by decide,by decide,rfl⟩ hY F
  (fun w H a ns hl hO hS=>OB (M ns hl) (hK w) hS) fun _ _ _ _ _ z=>z
open PySem PySem.W PySem.W.X
theorem Km{q:Program}{loose:List Str}{XP:(Str->Option Value)->Heap->Prop}{r:RowW}{d:DefRec}{kwd:List (Str×Expr)}{run:Value->List Value->Sem Value}{K:Params->Frag}{as:List Addr}{n t:Nat}(e:∀P,as=(K P).map (·.1))
  (W:WalkO q loose XP (fun w h=>(K w.params).In h) r d kwd run):WalkX q loose XP (obsZ as) (valZ K n t) r d kwd run:=
 fun w s₀ s₁ mg mb G y a o pm cd doc dV kV ho hd Sl hD hmg hg args vals as' L=>W w s₀ s₁ mg mb G (InK.keeps w _ _ (z_facts e y).2.1 L.keeps) a o pm cd doc dV kV ho hd Sl hD hmg hg args vals as'
end Q
noncomputable def PySem.W.Fast.tw18405770923347303917:PySem.Program:=PySem.Challenge.pw_sinceply_k02_records_refused
theorem PySem.W.Fast.te18405770923347303917:PySem.Challenge.pw_sinceply_k02_records_refused=PySem.W.Fast.tw18405770923347303917:=rfl
namespace PySem.W.Fast
def tw6868748286124106703:=0
def tw10016230007066570701:=0
def tw17366110730832085730:=0
def tw9485912482956007462:=0
def tw2772567161438486180:=0
def tw10489929699361719199:=0
def tw9669633535017631470:=0
def tw4715292424869869322:=0
def tw4891002032530328632:=0
def tw7334431371449701350:=0
def tw8617559021918595048:=0
def tw361238255304161250:=0
def tw4931689885707983531:=0
def tw7984856367279942833:=0
def tw9505570962292633003:=0
def tw16981324032448839787:=0
def tw15284292343706570365:=0
def tw14070644378994416612:=0
def tw9628062797855576797:=0
def tw3742521600511222361:=0
def tw12100928281923453188:=0
def tw2729951305557108518:=0
def tw9388416551857132800:=0
def tw218317442410784683:=0
def tw15908458913316480897:=0
def tw1737169373425472356:=0
def tw5451337625390656854:=0
def tw7865363317750834510:=0
def tw15116275394051932090:=0
def tw14632162766326922666:=0
def tw8858224832883859350:=0
def tw17645626294690146463:=0
def tw9466647821323623321:=0
def tw13966557876840649311:=0
def tw12115041134802693611:=0
def tw14604817986141479084:=0
def tw17068893926868634852:=0
def tw8221975803969324305:=0
def tw14906061345726256013:=0
def tw3083046488909380731:=0
def tw1276808332755876814:=0
def tw985062686265486404:=0
def tw4292065580723973010:=0
def tw6432824052727533549:=0
def tw8443981139705756620:=0
def tw3784153191719049255:=0
def tw15680321400009084040:=0
def tw3359175262574564358:=0
def tw8245877433542339712:=0
def tw1105230922221982849:=0
def tw2078501115850331843:=0
def tw5842988196362797546:=0
def tw13100099543921168669:=0
def tw8726795373887094649:=0
def tw7135355906629269874:=0
def tw12416006323367044953:=0
def tw10177597818431662373:=0
def tw10347187752716852979:=0
def tw14719369825365833033:=0
def tw5436941023383220028:=0
def tw17842607715242856087:=0
def tw14975613876159610624:=0
def tw841345672419603661:=0
def tw879656065517142484:=0
def tw10272934479642463536:=0
def tw2656830559934669416:=0
def tw2266393688571533074:=0
def tw3087139292137613873:=0
def tw11816081974934240450:=0
def tw2984482742221252786:=0
def tw13331603721665054799:=0
def tw11689350421515929394:=0
def tw10964866541513721483:=0
def tw657891832747081327:=0
def tw16040869464408165684:=0
def tw17343073820511124291:=0
def tw3525112283365186386:=0
def tw2552725456673178256:=0
def tw2645087643196725554:=0
def tw9092272943821712353:=0
def tw5000075449967149028:=0
def tw6220790526109413880:=0
def tw7483974479074956898:=0
def tw2980813519924021606:=0
def tw5383168241852509597:=0
def tw2442524779490807372:=0
def tw1317230695968608952:=0
def tw8895944123052485530:=0
def tw10564176195334064964:=0
def tw10564028799383506095:=0
def tw4895014719236504686:=0
def tw15641102459655085041:=0
def tw2188184676516895595:=0
def tw14343109665092354937:=0
def tw4869275412500128575:=0
def tw2894010391349638928:=0
def tw10180913905121986533:=0
def tw14750876482555938789:=0
def tw15798251161078636538:=0
def tw11641039635849105982:=0
def tw18245938554639693160:=0
def tw17810898783381151104:=0
def tw14462504962779818456:=0
def tw5511115943164317896:=0
def tw2093981881098145768:=0
def tw14521480705031754754:=0
def tw14424141170032183230:=0
def tw13969059544619982103:=0
def tw5721158214911439131:=0
def tw7973977528348649242:=0
def tw12498377344431386510:=0
def tw704332183261842014:=0
def tw8975118016547310982:=0
def tw1897216441203971666:=0
def tw10003759045576630654:=0
def tw7451978480030419309:=0
def tw17226119632554148615:=0
def tw2309945163313432905:=0
def tw13466485384230291587:=0
def tw7900087619713814292:=0
def tw7405005606862881788:=0
def tw6788354696336524818:=0
def tw8221739674944823502:=0
def tw507295375681746736:=0
def tw3539628631784455453:=0
def tw3409319246370636899:=0
def tw13256145676331965799:=0
def tw4133890588852314974:=0
def tw18438631540429674251:=0
def tw4155990546395589379:=0
def tw3757714158109547561:=0
def tw9478491576997038741:=0
def tw2169316775922761019:=0
def tw15806556770354773054:=0
def tw6179082476861893276:=0
def tw17951439106946170493:=0
def tw11243772542834652356:=0
def tw4246186662382277196:=0
def tw2628767193423397411:=0
def tw14201926297055245274:=0
def tw4657409475277257367:=0
def tw1406762209288929565:=0
def tw8901169982619138318:=0
def tw1715032610396272370:=0
def tw3268970148969906242:=0
def tw15098728907305760865:=0
def tw2739153835856538049:=0
def tw12003425572104742082:=0
def tw487538872633585535:=0
def tw3834435904763323454:=0
def tw15495889067959499342:=0
def tw3930975580350615507:=0
def tw4888671827123593274:=0
def tw368830648751195499:=0
def tw11299935809501926836:=0
def tw6343725736250642206:=0
def tw13641899344601188950:=0
def tw16193346535853228175:=0
def tw9636096861453385690:=0
def tw8201413837893616992:=0
def tw9415816935703515041:=0
def tw18298313821843497684:=0
def tw12676995756989872935:=0
def tw6528941149238605879:=0
def tw18347092760661692920:=0
def tw1271153938504236992:=0
def tw8735174592652205439:=0
def tw12728694883210142493:=0
def tw999721959614370639:=0
def tw10278035890622237510:=0
def tw636804676213673266:=0
def tw12705071927506254589:=0
def tw10719631930347406760:=0
def tw14433599388792184280:=0
def tw15172555520081895528:=0
def tw12022432751418733386:=0
def tw2779965279558229695:=0
def tw2104933085499152929:=0
def tw7760290465848513847:=0
def tw8948453550490154923:=0
def tw1794374291325224471:=0
def tw652803211733374690:=0
def tw1602626055002907572:=0
def tw11221277807763145868:=0
def tw8951793445434320937:=0
def tw13850538944258999940:=0
def tw8206266228235505315:=0
def tw12025596503318483729:=0
def tw7256937888462378410:=0
def tw7273291108335175727:=0
def tw9969385347443247341:=0
def tw13037811846468057714:=0
def tw14332032605649793061:=0
def tw7621672404153972920:=0
def tw15944646414276574675:=0
def tw3806931959955117596:=0
def tw16318496994662044681:=0
def tw12098252338407829543:=0
def tw8300642764210864656:=0
def tw14741037501208570424:=0
def tw1049028569372604369:=0
def tw3139857718681792087:=0
def tw8849861284668914200:=0
def tw4302272326081192654:=0
def tw4638392159095537700:=0
def tw14417007864509501393:=0
def tw13422563939549047670:=0
def tw10940063397440269663:=0
def tw15830412702289777795:=0
def tw14480193388939920967:=0
def tw9172536821034662211:=0
def tw14908123452922151886:=0
def tw526191045173787615:=0
def tw15990551797122633479:=0
def tw16494680568791555910:=0
def tw4137147265315899290:=0
def tw18085705992319226463:=0
def tw5908866899545223243:=0
def tw17411035210492204975:=0
def tw263775363720706788:=0
def tw6992973388639247294:=0
def tw16738731480520014687:=0
def tw8382356043202129581:=0
def tw9177616439715221664:=0
def tw11724003623169862296:=0
def tw13146018650324907453:=0
def tw10086416994766385807:=0
def tw8621758924030867821:=0
def tw11532267881493363527:=0
def tw12159524345333698603:=0
def tw16093109174361996668:=0
def tw14869684335569527318:=0
def tw18320141788902221204:=0
def tw17167008945447972818:=0
def tw16336108435471965289:=0
def tw7529199325684114063:=0
def tw1385987797789114551:=0
def tw13154076247895853741:=0
def tw9253493889912022586:=0
def tw14547435304062407542:=0
def tw3450888818759438152:=0
def tw8860950142938737882:=0
def tw14216286760245571035:=0
def tw14885023644605276021:=0
def tw15684458764858623802:=0
def tw892253042801660508:=0
def tw9058413054437040770:=0
def tw5080096564427114202:=0
def tw17746666498860333994:=0
def tw940032465060831680:=0
def tw667266696833040933:=0
def tw10796633078627816075:=0
def tw3641615057311373709:=0
def tw9587314960529871181:=0
def tw12071201865949615690:=0
def tw4291135746996260662:=0
def tw15376466361336525204:=0
def tw16641698721122030743:=0
def tw6976675526564692393:=0
def tw16213258974572941178:=0
def tw4746421766834635373:=0
def tw8370389472134304320:=0
def tw2033144393653602250:=0
def tw269463352297894658:=0
def tw10632131579626602140:=0
def tw14137093971221706231:=0
def tw13686097981456813520:=0
def tw14071575163724230398:=0
def tw3235902953210044648:=0
def tw15873624343436692175:=0
def tw5350350659197067023:=0
def tw16733686623561249291:=0
def tw12253432073023703271:=0
def tw16968968373031343816:=0
def tw1071048831504110121:=0
def tw18271510731685157542:=0
def tw3914618468686446911:=0
def tw16213119231842135108:=0
def tw10378665719052933391:=0
def tw17596583157120212938:=0
def tw15559941006944287533:=0
def tw18184583158646402609:=0
def tw17692115954757407720:=0
def tw17431797439470977323:=0
def tw9748871499262096968:=0
def tw1632552965279838362:=0
def tw9706814739638925894:=0
def tw9564197359704679536:=0
def tw14574874752425215889:=0
def tw9187698633581987980:=0
def tw7936980505932987171:=0
def tw4640263045560818942:=0
def tw11989100407152669074:=0
def tw10705941566207534975:=0
def tw10033113586242132601:=0
def tw13532159028793454019:=0
def tw5225037041360076616:=0
def tw13780932915213507220:=0
def tw12803171740743163352:=0
def tw3690379919346029011:=0
def tw2973286944428017187:=0
def tw4976444184077017740:=0
def tw1317942046804967761:=0
def tw2894703176407705489:=0
def tw1066666071383692968:=0
def tw1451632095323934783:=0
def tw2976067079308190419:=0
def tw14866080785083129982:=0
def tw12662437462017273394:=0
def tw6038231281822076776:=0
def tw14656523906198572757:=0
def tw16761378071027103524:=0
def tw5746863355156666708:=0
def tw17926241759708107469:=0
def tw9056725339115482427:=0
def tw18269361787258290293:=0
def tw171452086822958318:=0
def tw12964658143743017606:=0
def tw14206931759034514835:=0
def tw14001240924704971090:=0
def tw1114157626563814999:=0
def tw4334299633202307659:=0
def tw5281657774026024650:=0
def tw10739845355486404542:=0
def tw14799320839194618662:=0
end PySem.W.Fast
open PySem PySem.W PyProof.Rows
set_option maxRecDepth 100000 in
set_option maxHeartbeats 0 in
theorem PySem.Challenge.cw_sinceply_k02_records_refused_holds : PySem.Challenge.rw_sinceply_k02_records_refused.Holds := by
 w_on;o_law;z_head;(case hw=>w_witness2)
 k_fill
 refine' Q.Km (fun _=>rfl) (Q.walk (l:=PySem.Challenge.rw_sinceply_k02_records_refused) rfl rfl (fun w h Y=>Y) (P.math _ _ _ _ _ _ _ _ _ _ _ ?ne) ?noL ?fnS)
 case noL=>intro w;rfl
 case fnS=>
  intro w mg fa h KX G hmg
  refine' Q.all_mk KX G hmg ?JX ?JY ?JZ ?J0 ?J2 ?J3 ?J4 ?J_ ?Ka ?Kc ?CT ?CU ?CV ?CW ?kB ?kC ?gY ?CY ?CZ ?C0 ?C1 ?AA ?m5 ?Kd ?Eh ?Ke ?m7 ?Kf ?Ei ?Kg ?Kh ?Bu ?Kl ?zD ?Bv ?o9 ?xR ?uO ?m8 ?xT ?uP ?qw ?m9 ?xU ?uQ ?uR ?sd ?uS ?kT ?lH ?lI ?lJ ?lN ?lO ?lP ?lQ ?ng ?o_ ?pq ?pA ?pB ?pC ?pD ?pF ?pG ?pH ?pI ?pJ ?se ?sf ?pK ?sj ?sq ?su ?sC ?sD ?sF ?sG ?sH ?sI ?sJ ?sL ?sM ?kU ?lR ?lS ?lU ?lV ?lW ?lX ?lY ?ni ?pL ?pM ?pN ?pO ?pP ?pQ ?pR ?pS ?sN ?sO ?sP ?sQ ?sS ?sV ?sW ?nj ?pT ?pU ?pV ?pW ?pX ?pY ?pZ ?nk ?p5 ?p6 ?p7 ?p8 ?p9 ?p_ ?qc ?lZ ?nq ?nt ?nu ?nv ?nA ?nB ?nC ?qe ?sX ?sY ?sZ ?s_ ?tu ?tw ?tE ?nD ?qf ?qg ?qh ?qi ?qj ?qk ?ql ?ez ?dO ?cZ ?eE ?dP ?dw ?c_ ?eG ?dQ ?dR ?dS ?gZ ?g6 ?g7 ?gp ?dU ?fu ?j3 ?jq ?gq ?j4 ?jr ?g_ ?gu ?j5 ?jt ?ju ?gv ?jv ?jx ?h_ ?fy ?jy ?ia ?gx ?fB ?jz ?ic ?ig ?fC ?ir ?gy ?fD ?dW ?gA ?fE ?eH ?dX ?gB ?fF ?fG ?dY ?fH ?j6 ?jA ?gC ?j7 ?jB ?iu ?gD ?j8 ?jC ?jD ?gE ?jE ?jF ?iw ?fJ ?jG ?iz ?gF ?fK ?jH ?iA ?iB ?fL ?iC ?iD ?gG ?eK ?iE ?gH ?fM ?eL ?iF ?gI ?gJ ?eN ?gK ?gM ?fN ?dZ ?gO ?fO ?eO ?d_ ?gP ?fP ?fQ ?ee ?fR ?j9 ?jI ?gQ ?j_ ?jJ ?iG ?gR ?kg ?jK ?jL ?gS ?jM ?jN ?iH ?fS ?jO ?iI ?gT ?fT ?jP ?iJ ?iK ?fU ?iM ?jQ ?iN ?fV ?jR ?iO ?gU ?fW ?jS ?iP ?iQ ?fX ?iR ?jT ?iU ?fY ?jU ?iV ?gW ?fZ ?jV ?iW ?iX ?f_ ?iY
  case JX|JY|JZ|J0|J2|J3|J4|J_|Ka|Kc|CT|CU|CV|CW|kB|kC|gY|CY|CZ|C0|C1|AA=>refine' Br.cT ?e ?l ?c ?k;(case e=>k_is);(case l=>k_is);(case c=>k_is);(case k=>k_is)
  case m5|Kd|Eh|Ke|m7|Kf|Ei|Kg|Kh|Bu|Kl|zD|Bv|o9|xR|uO|m8|xT|uP|qw|m9|xU|uQ|uR|sd|uS|pG|pH|pI|pJ=>k_is
  case kT|lH|lI|lJ|lN|lO|lP|lQ|ng|o_|pq|pA|pB|pC|pD|pF|se|sf|pK|sj|sq|su|sC|sD|sF|sG|sH|sI|sJ|sL|sM|kU|lR|lS|lU|lV|lW|lX|lY|ni|pL|pM|pN|pO|pP|pQ|pR|pS|sN|sO|sP|sQ|sS|sV|sW|nj|pT|pU|pV|pW|pX|pY|pZ|nk|p5|p6|p7|p8|p9|p_|qc|lZ|nq|nt|nu|nv|nA|nB|nC|qe|sX|sY|sZ|s_|tu|tw|tE|nD|qf|qg|qh|qi|qj|qk|ql|ez|dO|cZ|eE|dP|dw|c_|eG|dQ|dR|dS|gZ|g6|g7|gp|dU|fu|j3|jq|gq|j4|jr|g_|gu|j5|jt|ju|gv|jv|jx|h_|fy|jy|ia|gx|fB|jz|ic|ig|fC|ir|gy|fD|dW|gA|fE|eH|dX|gB|fF|fG|dY|fH|j6|jA|gC|j7|jB|iu|gD|j8|jC|jD|gE|jE|jF|iw|fJ|jG|iz|gF|fK|jH|iA|iB|fL|iC|iD|gG|eK|iE|gH|fM|eL|iF|gI|gJ|eN|gK|gM|fN|dZ|gO|fO|eO|d_|gP|fP|fQ|ee|fR|j9|jI|gQ|j_|jJ|iG|gR|kg|jK|jL|gS|jM|jN|iH|fS|jO|iI|gT|fT|jP|iJ|iK|fU|iM|jQ|iN|fV|jR|iO|gU|fW|jS|iP|iQ|fX|iR|jT|iU|fY|jU|iV|gW|fZ|jV|iW|iX|f_|iY=>first | k_is | kit_is | kernel_rfl
 case ne=>decide
end
