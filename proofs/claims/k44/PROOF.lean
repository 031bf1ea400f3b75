import PyProof.Rows.All
import Wide.All
import OpenK.AllK
import Wide.FinOn
import Lean
import PyProof.EqAt
import PyProof.EqKinds
import PyProof.TupleCall
import KE.KRevIter
import PyProof.EnumMake
import PyProof.EnumFor
import PyProof.ListRange
import PyProof.Rows.Range3
import PyProof.ZipIter
import PyProof.SumWalk
import PyProof.WalksMore
import PyProof.Rows.SetFrom
import PyProof.SetRoads
import PyProof.Rows.SortRunsK
import PyProof.Rows.SortWalk
import KE.KSortTup
import PyProof.Rows.Own
import PyProof.StationsW
import OpenK.KRaise
import KE.KIsAll
import PyProof.ExcArgsOwn
import PyProof.RulesAs
import PyProof.Ns1
import PyProof.Rows.Catch
import OpenK.KOwn
import PyProof.ExcBaseAll.ValueError
import KE.KDictSum
import PyProof.AttrMiss
import PyProof.IsiH_list
import KE.KDictOf
import PyProof.DictList
import KE.KDictList
import PyProof.FactsAll.set
import PyProof.Rows.TupAdd
import KE.KDictMeth
import PyProof.DictWalks
import PyProof.TupleKey
import PyProof.DictStraight
import PyProof.IsRules
import KE.KRevSl
import PyProof.Rows.CallKwBuiltin
import PyProof.Rows.SortShell
import KE.KSortKey
import KE.KLam
import KE.KNestM
import PyProof.CallStr
import OpenK.KMake
import PyProof.ExcClass2
import PyProof.InstStoreFacts
import OpenK.KCls
import PyProof.DictRoadsH
import PyProof.DictUpdate
import PyProof.DictCopy
import PyProof.MeetsDictList
import PyProof.FactsAll.tuple_1
import PySem.Challenge.RW_sinceply_k44_place_pairs_refused
open Array renaming length_toList→Vu,toList_append→VM,size_push→V1,getElem?_toList→V4,toList_extract→WH,perm_iff_toList_perm→W7,toList_reverse→Xd,getElem?_eq_getElem→Xe,size_extract→Xl,toList_push→Xn,eraseIdxIfInBounds→XH,size_append→XN,find?_toList→X8
open Bool renaming and_eq_true→Vv,false_ne_true→VL,false_eq_true→V3,eq_false_iff→Ys,not_eq_true'→Yt,eq_iff_iff→YH
open False renaming elim→Vx
open ForInStep renaming yield→Wx
open Int renaming toNat_natCast→Yu
open List renaming getElem?_set_ne→gc,map_cons→gV,replicate→Dp,mem_cons_of_mem→Ds,length_map→Pa,mem_cons_self→PU,getElem?_append_left→Vi,getElem?_eq_some_iff→Vm,length_append→Vn,size_toArray→Vo,mem_cons→Vq,getElem?_append_right→Vs,mem_append→Vt,mem_singleton→Vw,map_append→Vy,getElem?_set_self→Vz,mem_append_left→VA,mem_append_right→VB,mem_map→VE,getElem?_map→VH,nodup_cons→VI,getElem?_eq_none→VJ,range→VO,append_nil→VQ,getElem?_replicate→VR,length_set→VT,pairwise_append→VU,length_cons→VX,map_map→V0,getElem?_eq_getElem→V2,lookup_cons→V5,length_take→V8,append_assoc→Wa,mem_filter→Wd,find?_cons→Wg,drop_eq_getElem_cons→Wh,extract_eq_take_drop→Wj,length_range→Wl,filter_cons_of_neg→Wn,filter_cons_of_pos→Wo,all_eq_true→Wv,any_cons→WD,mem_range→WE,mem_of_getElem?→WG,flatten_cons→WJ,nodup_append→WL,replicate_succ→WM,take_of_length_le→WO,getElem?_take_of_lt→WV,nil_append→WW,pairwise_map→WY,getElem?_cons_succ→WZ,pairwise_cons→W2,length_replicate→W3,length_singleton→W4,take_append_drop→W5,getElem?_set→W8,ext_getElem?→W9,map_congr_left→Xh,getElem?_range→Xi,length_filter_le→Xo,set_append_right→Xq,cons_append→Xu,map_id→Xv,reverse_append→Xw,filter_eq_self→Xy,mem_filterMap→XD,map_nil→XG,getElem?_cons_zero→XJ,length_drop→XT,drop_length→XU,mem_of_mem_take→X3,filterMap_cons→X5,map_inj_right→Yd,Perm→Ye,zip_cons_cons→Yh,find?_eq_none→Yj,Pairwise→Yk,of_mem_zip→YF,range'→YI,take_zero→YK,all_cons→YM,set_set→YO,foldl→YU
open List.Pairwise renaming imp_of_mem→WX
open Nat renaming le_of_ble_eq_true→Vk,lt_of_lt_of_le→Vr,ne_of_lt→VC,zero_le→VN,lt_irrefl→W6,not_lt→Xs,lt_succ_of_lt→XO,le_succ→XR,zero_add→X0,add_sub_cancel→Yg,le_succ_of_le→Yq,le_of_lt→Yx,ne_of_gt→Yy,lt_trans→YN,log2_lt→YQ
open Ne renaming symm→VS
open Option renaming isSome_iff_exists→VP,isSome_map→WK,isSome_some→Yc
open PyProof.Rows renaming OwnCls→V9,callWith_type1→W0,slot_tuple_getitem→Xj,boot_isinstance→Xp
open PyProof.Rows.KeyOrd renaming kle_of_klt→V6,kle_refl→Wz,kle_trans→WC
open PyProof.Rows.SortSt renaming mk'→Yw
open PySem.Builtin.Dict renaming showsAll→XY
open PySem.Builtin.List renaming listTooLong→Xg
open PySem.Builtin.Slice renaming slicePlaces→Xc,sliceAdjust→Xz
open PySem.Builtin.Tuple renaming tupleExact→Xf,tupleHashOf→XA
open PySem.Calls renaming spliced_nil→XM,callWith_builtin→XQ,evalArgs_plain→XZ,spliced_cons→Yb
open PySem.F renaming slot_dict_keyiterator_next→WI,plainAttrs_list→Xk,slot_dict_get→XX,slot_dict_iter→YC
open PySem.Heap renaming lt_size→Vl,get?_push_of_some→Vp,get?_push_size→VY,get?_update_self→WQ,SameBut→WS,get?_push_ne→Xa,size_update→YA
open PySem.Heap.SameBut renaming update→WN
open PySem.NameKind renaming cell→YL
open PySem.Obj renaming mapSeq→Wq,dropNameByArray→Xx,dropName_eq→X4
open PySem.PassesOwn renaming never→V7
open PySem.PyData renaming eqv→Wu,depthAll→Wy,showable→Xm,hasDict→Xr,showableAll→Yi,eqvAll→Yl,canLayAll0→Yr,hasDictAll→Yv
open PySem.Str renaming ofString→Yz
open PySem.Value renaming ref→VF,str→XC,int→XW,builtin→Ym,isStr→YR,bool→YT
open PySem.W renaming kitOne→eg,Frag→Dk,findIn→Vj,nsIn→VD,mroIn→VG,fnOf→VZ,keepIn→Wc,kia_one→Wf,clsIn→Wm,excIn→Ww,codeIn→XI,typeIn→X7,methodObj→Yn,hasDictIn→Yo,specialIn→Yp,instObj→YD,hideAll→YE,OpenLaw→YG,lookIn→YJ
open Sum renaming inl→VW,inr→X6
open True renaming intro→WU
noncomputable section
set_option Elab.async false
set_option linter.all false

set_option maxRecDepth 100000
local macro_rules|`(tactic|trivial)=>`(tactic|first|exact Or.inl rfl|exact Or.inr rfl|exact Or.inr (Or.inl rfl)|exact Or.inr (Or.inr rfl)|assumption)
local macro_rules|`(tactic|and_intros)=>`(tactic|dsimp only[List.map,List.replicate,List.cons_append,List.nil_append])
namespace L2
open PySem PySem.Spec PyProof.Rows
section
variable{a b:Addr}{H:Hp}{o:HO}
noncomputable abbrev Key:=Sum Int Str
noncomputable def yW:Key->Value->Bool
 |.inl k,v=>Value.isInt k v
 |.inr x,v=>Value.isStrOf x v
noncomputable def TX(w:World):Key->Int
 |.inl k=>hashInt k
 |.inr x=>hashStr w x
theorem b4:∀{k:Key} {v:Value},yW k v=true->(∃i t,k=VW i/\v=XW i t)\/(∃x t,k=X6 x/\v=XC x t)
 |.inl i,v,h=>by obtain⟨t,e⟩:=Value.isInt_shape (k:=i) (v:=v) h;exact .inl ⟨i,t,rfl,e⟩
 |.inr x,v,h=>by obtain⟨t,e⟩:=Value.isStrOf_shape (x:=x) (v:=v) h;exact .inr ⟨x,t,rfl,e⟩
theorem Fb(i:Int)(t:Tok):yW (.inl i) (.int i t)=true:=by simp[yW,Value.isInt]
theorem Fc(x:Str)(t:Tok):yW (.inr x) (.str x t)=true:=by simp[yW,Value.isStrOf]
theorem NN(a b:Int):decide ((VW a:Key)=VW b)=(a == b):=by
 by_cases e:a=b
 ·subst e;simp
 ·have h:¬(VW a:Key)=VW b:=fun q=>e (Sum.inl.inj q);rw[decide_eq_false h];exact(beq_eq_false_iff_ne.mpr e).symm
theorem NO(a b:Str):decide ((X6 a:Key)=X6 b)=decide (a=b):=by
 by_cases e:a=b
 ·subst e;simp
 ·have h:¬(X6 a:Key)=X6 b:=fun q=>e (X6.inj q);rw[decide_eq_false h,decide_eq_false e]
theorem NP(a:Int)(b:Str):decide ((VW a:Key)=X6 b)=false:=decide_eq_false (fun q=>nomatch q)
theorem NQ(a:Str)(b:Int):decide ((X6 a:Key)=VW b)=false:=decide_eq_false (fun q=>nomatch q)
noncomputable def aV(prog:Program)(w:World):PySem.KeyKind prog w Key where
 is:=yW
 hash:=TX w
 inj:=fun v a b ha hb=>by
  rcases b4 ha with⟨i,t,rfl,rfl⟩ | ⟨x,t,rfl,rfl⟩
  ·rcases b4 hb with⟨j,u,rfl,e⟩ | ⟨y,u,rfl,e⟩
   ·injection e with e1 _;rw[e1]
   ·exact nomatch e
  ·rcases b4 hb with⟨j,u,rfl,e⟩ | ⟨y,u,rfl,e⟩
   ·exact nomatch e
   ·injection e with e1 _;rw[e1]
 byValue:=fun k v h=>by rcases b4 h with⟨i,t,rfl,rfl⟩ | ⟨x,t,rfl,rfl⟩<;>rfl
 pyHash:=fun hv h=>by
  rcases b4 hv with⟨i,t,rfl,rfl⟩ | ⟨x,t,rfl,rfl⟩
  ·exact wpAny_pyHash_int h
  ·exact wpAny_pyHash_str h
 eqBool:=fun hu hv h=>by
  rcases b4 hu with⟨i,t,rfl,rfl⟩ | ⟨x,t,rfl,rfl⟩
  ·rcases b4 hv with⟨j,u,rfl,rfl⟩ | ⟨y,u,rfl,rfl⟩
   ·rw[NN]at h;exact wpAny_eqBool_int h
   ·rw[NP]at h;exact SeqAt.EqAt.int_str i t y u _ _ _ _ h
  ·rcases b4 hv with⟨j,u,rfl,rfl⟩ | ⟨y,u,rfl,rfl⟩
   ·rw[NQ]at h;exact SeqAt.EqAt.str_int x t j u _ _ _ _ h
   ·rw[NO]at h;exact wpAny_eqBool_str h
 «strs»:=fun k x t v h=>by
  rcases b4 h with⟨i,u,rfl,e⟩ | ⟨y,u,rfl,e⟩
  ·exact nomatch e
  ·injection e with e1 _
   subst e1;cases v<;>rfl
theorem AS(prog:Program)(w:World)(i:Int)(t:Tok):(aV prog w).is (.inl i) (.int i t)=true:=Fb i t
theorem AU(prog:Program)(w:World)(x:Str)(t:Tok):(aV prog w).is (.inr x) (.str x t)=true:=Fc x t
inductive V where
 |non | bl (b:Bool) | int (i:Int) | str (x:Str) | byt (b:Array UInt8) | flt (b:UInt64) | ref (a:Addr) | ty (n:String)
 deriving DecidableEq
def RelV:V->Value->Prop
 |.non,u=>u=Value.none
 |.bl b,u=>u=YT b
 |.int i,u=>∃t,u=XW i t
 |.str x,u=>∃t,u=XC x t
 |.byt b,u=>∃t,u=Value.bytes b t
 |.flt b,u=>∃t,u=Value.float b t
 |.ref a,u=>u=VF a
 |.ty n,u=>u=Value.type n
noncomputable abbrev Vals:List V->List Value->Prop:=Paired RelV
theorem Vals.length{xs:List V}{us:List Value}(r:Vals xs us):xs.length=us.length:=Paired.length r
theorem Vals.get:∀{xs:List V} {us:List Value} {i:Nat} {x:V},Vals xs us->xs[i]?=some x->∃u,us[i]?=some u/\RelV x u
 |_,_,_,_,.nil,e=>by simp at e
 |_,_,0,_,.cons r _,e=>by simp at e;subst e;exact⟨_,rfl,r⟩
 |_,_,i+1,x,.cons _ t,e=>by obtain⟨u,h1,h2⟩:=Vals.get (i:=i) (x:=x) t (by simpa using e);exact⟨u,by simpa using h1,h2⟩
theorem Vals.set{x:V}{u:Value}(r:RelV x u):∀{xs:List V} {us:List Value} (i:Nat),Vals xs us->Vals (xs.set i x) (us.set i u)
 |_,_,_,.nil=>.nil
 |_,_,0,.cons _ t=>.cons r t
 |_,_,i+1,.cons q t=>.cons q (Vals.set r i t)
theorem Vals.append:∀{xs ys:List V} {us ws:List Value},Vals xs us->Vals ys ws->Vals (xs++ys) (us++ws)
 |_,_,_,_,.nil,s=>s
 |_,_,_,_,.cons r t,s=>.cons r (Vals.append t s)
theorem Vals.take:∀{xs:List V} {us:List Value} (n:Nat),Vals xs us->Vals (xs.take n) (us.take n)
 |_,_,0,_=>.nil
 |_,_,_+1,.nil=>.nil
 |_,_,n+1,.cons r t=>.cons r (Vals.take n t)
theorem Vals.drop:∀{xs:List V} {us:List Value} (n:Nat),Vals xs us->Vals (xs.drop n) (us.drop n)
 |_,_,0,r=>r
 |_,_,_+1,.nil=>.nil
 |_,_,n+1,.cons _ t=>Vals.drop n t
def qU:Option V->Option Value->Prop
 |some v,some u=>RelV v u
 |none,none=>True
 |_,_=>False
def KV{κ:Type}:List (κ×V)->List (κ×Value)->Prop:=Paired fun(p:κ×V) (q:κ×Value)=>p.1=q.1/\RelV p.2 q.2
noncomputable def kV:Key->V
 |.inl i=>.int i
 |.inr x=>.str x
inductive HO where
 |lst (xs:List V)
 |tup (xs:List V)
 |dK (kvs:List (Key×V)) | dT (kvs:List (List Key×V)) (ts:List Addr)
 |set (S:Int->Bool) (n:Nat)
 |ins (C dx:Addr) (fs:List (Str×V))
 |own (x:Addr)
 |xd (fs:List (Str×V))
 |met (f x:Addr)
 |rng (lo hi:Int)
 |frz (o:Obj) (u:HO)
 |tbl (ln cl:Value) (q:Str)
 |ext (φ:Heap->Prop)
noncomputable abbrev Hp:=Addr->Option HO
noncomputable def upd(H:Hp)(a:Addr)(o:HO):Hp:=fun b=>if b=a then some o else H b
theorem aL{a:Addr}:upd H a o a=some o:=by unfold upd;rw[if_pos rfl]
theorem aH(h:b≠a):upd H a o b=H b:=by unfold upd;rw[if_neg h]
theorem MF{o u:HO}(h:H a=some o)(h':H b=some u)(d:o≠u):a≠b:=by intro e;subst e;rw[h]at h';exact d (Option.some.inj h')
theorem aT(h:H a=some o)(h':H b=none):a≠b:=by intro e;subst e;rw[h]at h';cases h'
end
section
variable(P:Program)(w:World)
def bC(H:Hp)(h:Heap)(a:Addr):HO->Prop
 |.lst xs=>xs.length<=sizeLine/\∃(its:List Value) (n:Nat),Vals xs its/\h.get? a=some { cls:=.type "list",data:=.seq its.toArray n }
 |.tup xs=>xs.length<=sizeLine/\∃its:List Value,Vals xs its/\IsTup h a its.toArray
 |.dK kvs=>kvs.length<=sizeLine/\(a == sysModules)=false/\∃vs,KV kvs vs/\h.DictOf (aV P w) a vs
 |.dT kvs ts=>kvs.length<=sizeLine/\(a == sysModules)=false/\∃xs:List (List Key×Addr×Value),
   Paired (fun(p:List Key×V) (q:List Key×Addr×Value)=>p.1=q.1/\H q.2.1=some (.tup (p.1.map kV))/\RelV p.2 q.2.2) kvs xs /\
   ∃o es ep,h.get? a=some o/\o.ExactDict/\o.data=.dict es ep/\es.toList=xs.map (entryOfKey (tupleKind (aV P w)))/\(xs.map (·.1)).Nodup/\xs.map (·.2.1)=ts
 |.set S n=>h.SetOf (intKind P w) a S n
 |.ins C dx fs=>H dx=some (.own a)/\fs.length<=1000/\dx≠a/\h.get? a=some (YD C dx) /\
   ∃mA,h.Ns1 dx mA/\(∀f,qU (fs.lookup f) (mA f))/\PySem.Within mA (fs.map (·.1))
 |.own _=>∃o,h.get? a=some o
 |.xd fs=>∃mA,h.Ns1 a mA/\∀f,qU (fs.lookup f) (mA f)
 |.rng lo hi=>∃t u v,h.get? a=some { cls:=.type "range",data:=.fields #[.int lo t,.int hi u,.int 1 v] }
 |.frz o u=>h.get? a=some o/\bC H h a u
 |.tbl ln cl q=>∃ps:Array Value,h.get? a=some { cls:=.none,data:=.fields ps }/\(ps=#[]\/∃(c:Addr) (oc:Obj) (vs:Array Value) (t:Tok),ps=#[ln,cl,.ref c]/\H c=some (.frz oc (.own a))/\oc.data=.fields vs/\vs[1]?=some (.str q t))
 |.met f x=>h.get? a=some (Yn (.ref f) (.ref x))
 |.ext φ=>φ h/\(∃o,h.get? a=some o)/\∀h1 h2:Heap,φ h1->(∀o,h1.get? a=some o->h2.get? a=some o)->φ h2
def HOk(H:Hp)(h:Heap):Prop:=∀a o,H a=some o->bC P w H h a o
end
section
variable{P:Program}{w:World}{H H':Hp}{h h':Heap}{a:Addr}{o:HO}
theorem bC.lt(x:bC P w H h a o):a<h.objs.size:=by
 cases o with
 |lst xs=>obtain⟨_,_,_,_,e⟩:=x;exact Vl e
 |tup xs=>obtain⟨_,_,_,p⟩:=x;exact p.lt
 |dK kvs=>obtain⟨_,_,_,_,o,_,_,e,_⟩:=x;exact Vl e
 |dT kvs ts=>obtain⟨_,_,_,_,o,_,_,e,_⟩:=x;exact Vl e
 |set S n=>obtain⟨o,_,_,_,e,_⟩:=x;exact Vl e
 |ins C dx fs=>obtain⟨_,_,_,e,_⟩:=x;exact Vl e
 |own y=>obtain⟨_,e⟩:=x;exact Vl e
 |xd fs=>obtain⟨_,⟨_,_,_,e,_⟩,_⟩:=x;exact Vl e
 |rng lo hi=>obtain⟨_,_,_,e⟩:=x;exact Vl e
 |frz ob u=>obtain⟨e,_⟩:=x;exact Vl e
 |tbl ln cl q=>obtain⟨_,e,_⟩:=x;exact Vl e
 |met f y=>exact Vl (show h.get? a=some _ from x)
 |ext φ=>obtain⟨_,⟨_,e⟩,_⟩:=x;exact Vl e
theorem Paired.NR{α β:Type}{F G:α->β->Prop}:∀{l₁:List α} {l₂:List β},Paired F l₁ l₂->(∀a b,F a b->G a b)->Paired G l₁ l₂
 |_,_,.nil,_=>.nil
 |_,_,.cons r t,f=>.cons (f _ _ r) (Paired.NR t f)
theorem bC.stay(x:bC P w H h a o)(k:∀b u,(b=a\/H b=some (.own a))->h.get? b=some u->h'.get? b=some u)
  (ho:∀b,H b=some (.own a)->H' b=some (.own a)) (hf:∀b o c,H b=some (.frz o (.own c))->H' b=some (.frz o (.own c))) (ht:∀b xs,H b=some (.tup xs)->H' b=some (.tup xs)):bC P w H' h' a o:=by
 induction o with
 |lst xs=>obtain⟨z,its,n,r,e⟩:=x;exact⟨z,its,n,r,k _ _ (.inl rfl) e⟩
 |tup xs=>obtain⟨z,its,r,ob,e,c⟩:=x;exact⟨z,its,r,ob,k _ _ (.inl rfl) e,c⟩
 |dK kvs=>obtain⟨z,y,vs,r,ob,es,ep,e,c⟩:=x;exact⟨z,y,vs,r,ob,es,ep,k _ _ (.inl rfl) e,c⟩
 |dT kvs ts=>obtain⟨z,y,xs,r,ob,es,ep,e,c⟩:=x;exact⟨z,y,xs,Paired.NR r fun p q z=>⟨z.1,ht _ _ z.2.1,z.2.2⟩,ob,es,ep,k _ _ (.inl rfl) e,c⟩
 |set S n=>obtain⟨ob,es,ep,t,e,c⟩:=x;exact⟨ob,es,ep,t,k _ _ (.inl rfl) e,c⟩
 |ins C dx fs=>obtain⟨d,z,ne,e,mA,⟨od,es,ep,e2,c⟩,r⟩:=x;exact⟨ho _ d,z,ne,k _ _ (.inl rfl) e,mA,⟨od,es,ep,k _ _ (.inr d) e2,c⟩,r⟩
 |own y=>obtain⟨ob,e⟩:=x;exact⟨ob,k _ _ (.inl rfl) e⟩
 |xd fs=>obtain⟨mA,⟨od,es,ep,e,c⟩,r⟩:=x;exact⟨mA,⟨od,es,ep,k _ _ (.inl rfl) e,c⟩,r⟩
 |rng lo hi=>obtain⟨t,u,v,e⟩:=x;exact⟨t,u,v,k _ _ (.inl rfl) e⟩
 |frz ob u ih=>obtain⟨e,q⟩:=x;exact⟨k _ _ (.inl rfl) e,ih q⟩
 |tbl ln cl q=>
  obtain⟨ps,e,d⟩:=x;refine⟨ps,k _ _ (.inl rfl) e,?_⟩;rcases d with d | ⟨c,oc,vs,t,d,d2,d3⟩
  ·exact .inl d
  ·exact .inr ⟨c,oc,vs,t,d,hf _ _ _ d2,d3⟩
 |met f y=>have e:h.get? a=some (Yn (.ref f) (.ref y)):=x;show h'.get? a=some (Yn (.ref f) (.ref y));exact k a _ (.inl rfl) e
 |ext φ=>obtain⟨p,⟨o,e⟩,st⟩:=x;exact⟨st _ _ p fun o q=>k _ _ (.inl rfl) q,⟨o,k _ _ (.inl rfl) e⟩,st⟩
theorem HOk.lt(x:HOk P w H h)(e:H a=some o):a<h.objs.size:=(x a o e).lt
theorem HOk.fresh(x:HOk P w H h)(e:h.objs.size<=a):H a=none:=by
 cases q:H a with
 |none=>rfl
 |some u=>exact absurd (Vr (x.lt q) e) (W6 _)
theorem HOk.kept(x:HOk P w H h)(k:∀b u,h.get? b=some u->h'.get? b=some u):HOk P w H h':=fun a o e=>(x a o e).stay (fun b u _ q=>k b u q) (fun _ q=>q) (fun _ _ _ q=>q) fun _ _ q=>q
theorem HOk.laid(x:HOk P w H h)(k:∀b u,h.get? b=some u->h'.get? b=some u)(hp:h.objs.size<=a)(new:bC P w (upd H a o) h' a o):HOk P w (upd H a o) h':=fun b u e=>by
 have hn:=x.fresh hp;by_cases hb:b=a
 ·subst hb;rw[aL]at e;cases e;exact new
 ·rw[aH hb]at e;exact(x b u e).stay (fun c v _ q=>k c v q) (fun c q=>by rw[aH (aT q hn)];exact q) (fun c _ _ q=>by rw[aH (aT q hn)];exact q) fun c xs q=>by rw[aH (aT q hn)];exact q
end
def Rd(H:Hp)(a:Addr)(u:HO):Prop:=H a=some u\/∃o,H a=some (.frz o u)
theorem Rd.ok{P:Program}{w:World}{H:Hp}{h:Heap}{a:Addr}{u:HO}(r:Rd H a u)(x:HOk P w H h):bC P w H h a u:=by
 rcases r with r | ⟨o,r⟩
 ·exact x a u r
 ·obtain⟨_,q⟩:=x a _ r;exact q
def Mut:Option HO->Prop
 |some (.lst _)=>True
 |some (.dK _)=>True
 |some (.dT _ _)=>True
 |some (.set _ _)=>True
 |some (.ins _ _ _)=>True
 |some (.ext _)=>True
 |_=>False
section
variable{P:Program}{w:World}{H:Hp}{h h':Heap}{x e:Addr}{o':HO}
theorem HOk.write(ok:HOk P w H h)(mu:Mut (H x))(he:e=x\/H e=some (.own x))(k:∀b u,b≠e->h.get? b=some u->h'.get? b=some u)(heo:∃u,h'.get? e=some u)
  (new:bC P w (upd H x o') h' x o'):HOk P w (upd H x o') h':=fun b u q=>by
 have QV:∀c y,H c=some (.own y)->c≠x:=fun c y r z=>by subst z;rw[r]at mu;exact mu
 have TY:∀c xs,H c=some (.tup xs)->c≠x:=fun c xs r z=>by subst z;rw[r]at mu;exact mu
 have TZ:∀c o y,H c=some (.frz o y)->c≠x:=fun c o y r z=>by subst z;rw[r]at mu;exact mu
 by_cases hb:b=x
 ·subst hb;rw[aL]at q;cases q;exact new
 ·rw[aH hb]at q;by_cases hbe:b=e
  ·have q':H b=some (.own x):=by
    rcases he with z | z
    ·exact absurd (hbe.trans z) hb
    ·rw[hbe];exact z
   rw[q]at q';cases q';obtain⟨v,hv⟩:=heo;exact⟨v,by rw[hbe];exact hv⟩
  ·refine(ok b u q).stay (fun c v hc r=>k c v ?_ r) (fun c r=>by rw[aH (QV c b r)];exact r) (fun c _ _ r=>by rw[aH (TZ c _ _ r)];exact r) fun c xs r=>by rw[aH (TY c xs r)];exact r
   rcases hc with rfl | hc
   ·exact hbe
   ·rintro rfl;rcases he with z | z
    ·exact QV c b hc z
    ·rw[hc]at z;cases z;exact hb rfl
end
structure Un(fs ex:List Addr)(H H':Hp)(h h':Heap):Prop where
 keep:∀b o,h.get? b=some o->H b=none->b∉fs->b∉ex->h'.get? b=some o
 slot:∀b o,h.get? b=some o->H b=none->b∈fs->b∉ex->∃sl,h'.get? b=some { o with slots:=sl }
 free:∀b o,h.get? b=some o->H b=none->b∉ex->H' b=none
 there:∀b o,h.get? b=some o->b∉ex->∃o',h'.get? b=some o'
 tups:∀b xs,H b=some (.tup xs)->H' b=some (.tup xs)
 vc:∀b o u,H b=some (.frz o u)->H' b=some (.frz o u)
 wI:∀b x y z,H b=some (.tbl x y z)->H' b=some (.tbl x y z)
section
variable{fs fs' ex ex':List Addr}{H H1 H2:Hp}{h h1 h2 h':Heap}{a x e:Addr}{o:HO}
theorem Un.any(u:Un fs ex H H1 h h1){b:Addr}{ob:Obj}(q:h.get? b=some ob)(n:H b=none)(hx:b∉ex):∃sl,h1.get? b=some { ob with slots:=sl }:=by
 by_cases hb:b∈fs
 ·exact u.slot b ob q n hb hx
 ·exact⟨ob.slots,u.keep b ob q n hb hx⟩
theorem Un.kept(k:∀b u,h.get? b=some u->h'.get? b=some u):Un fs ex H H h h':=
 ⟨fun b ob q _ _ _=>k b ob q,fun b ob q _ _ _=>⟨ob.slots,k b ob q⟩,fun _ _ _ n _=>n,fun b ob q _=>⟨ob,k b ob q⟩,fun _ _ q=>q,fun _ _ _ q=>q,fun _ _ _ _ q=>q⟩
theorem Un.refl:Un fs ex H H h h:=Un.kept fun _ _ q=>q
theorem Un.laid(k:∀b u,h.get? b=some u->h'.get? b=some u)(hp:h.objs.size<=a)(hn:H a=none):Un fs ex H (upd H a o) h h' where
 keep:=fun b u q _ _ _=>k b u q
 slot:=fun b u q _ _ _=>⟨u.slots,k b u q⟩
 free:=fun b u q n _=>by rw[aH (VC (Vr (Vl q) hp))];exact n
 there:=fun b u q _=>⟨u,k b u q⟩
 tups:=fun b xs q=>by rw[aH (aT q hn)];exact q
 vc:=fun b u xs q=>by rw[aH (aT q hn)];exact q
 wI:=fun b _ _ _ q=>by rw[aH (aT q hn)];exact q
theorem Un.write(mu:Mut (H x))(he:e=x\/H e=some (.own x))(k:∀b u,b≠e->h.get? b=some u->h'.get? b=some u)(heo:∃u,h'.get? e=some u):Un fs ex H (upd H x o) h h':=by
 have hx:∀b,H b=none->b≠x:=fun b n z=>by subst z;rw[n]at mu;exact mu
 have hb:∀b,H b=none->b≠e:=fun b n z=>by
  subst z;rcases he with r | r
  ·exact hx b n r
  ·rw[n]at r;cases r
 have hm:∀b u,H b=some u->¬Mut (some u)->b≠x:=fun b u q nm z=>by subst z;rw[q]at mu;exact nm mu
 refine ⟨fun b u q n _ _=>k b u (hb b n) q,fun b u q n _ _=>⟨u.slots,k b u (hb b n) q⟩,fun b u q n _=>by rw [aH (hx b n)];exact n,fun b u q _=>?_,
  fun b xs q=>by rw[aH (hm b _ q fun z=>z)];exact q,fun b u xs q=>by rw[aH (hm b _ q fun z=>z)];exact q,fun b _ _ _ q=>by rw[aH (hm b _ q fun z=>z)];exact q⟩
 by_cases hbe:b=e
 ·subst hbe;exact heo
 ·exact⟨u,k b u hbe q⟩
end
section
variable{h:Heap}{b:Addr}{o:Obj}{H:Hp}
noncomputable def trk(h:Heap)(H:Hp):List Addr:=(VO h.objs.size).filter fun a=>(H a).isSome
noncomputable def zU(h:Heap)(H:Hp):Heap:=YE h (trk h H)
theorem Fe(h:Heap)(H:Hp):(zU h H).objs.size=h.objs.size:=PySem.W.hideAll_size _ _
theorem GC(e:h.get? b=some o)(n:H b=none):(zU h H).get? b=some o:=
 PySem.W.hideAll_get _ e fun hm=>by have q:(H b).isSome=true:=(Wd.mp hm).2;rw[n]at q;simp at q
theorem Ka(e:(zU h H).get? b=some o):h.get? b=some o/\H b=none:=by
 have e':h.get? b=some o:=PySem.W.of_hideAll (trk h H) e;refine⟨e',?_⟩;cases q:H b with
 |none=>rfl
 |some x=>have hm:b∈trk h H:=Wd.mpr ⟨WE.mpr (Vl e'),by simp[q]⟩;have z:(zU h H).get? b=none:=PySem.W.hideAll_none (trk h H) hm;rw[z]at e;cases e
structure Mod(K:Dk)(mg:Str->Option Value)(base:Heap):Prop where
 kin:K.In base
 glob:base.Ns mainGlobals mg
 blt:∃mb,base.Ns builtinsNs mb/\∀x:Str,x ≠ "__name__" -> mb x=bootBuiltins x
 nolimit:base.NoLimit
structure Cx where
 prog:Program
 w:World
 K:Dk
 mg:Str->Option Value
 base:Heap
 A:Around
 N:List Str
 s₀:Shared
 H₀:Hp
 env:Env
 outer:List Env
 stack:List Env
 ex:List Addr
 fn:Str->Bool
 calm:Bool
 pn:List (Addr×Obj)
 xe:Value->Shared->Prop
noncomputable def frs(l:List Env):List Addr:=l.filterMap (·.frame)
noncomputable abbrev Cx.fs(X:Cx):List Addr:=frs X.outer
def Vis(sc:Scope)(x:Str):Prop:=sc.names.lookup x=some .local\/sc.names.lookup x=some .cell\/sc.names.lookup x=some .free
def Loc(sc:Scope)(x:Str):Prop:=sc.names.lookup x=some .local\/sc.names.lookup x=some .cell
def Look(env:Env)(h:Heap)(m:Str->Option Value)(x:Str)(u:Value):Prop:=
 (env.kindOf x=some .local/\m x=some u)\/((env.kindOf x=some .cell\/env.kindOf x=some .free)/\∃c,env.cells.lookup x=some c/\h.IsCell c (some u))
structure Cx.Ok(X:Cx):Prop where
 mod:Mod X.K X.mg X.base
 kind:X.env.scope.kind=.function
 glob:X.env.globals=mainGlobals
 blt:X.env.builtins=builtinsNs
 above:X.s₀.heap.objs.size<=X.env.locals
 inj:∀x y c,X.env.cells.lookup x=some c->X.env.cells.lookup y=some c->x=y
 has:∀x,(X.env.kindOf x=some .cell\/X.env.kindOf x=some .free)->∃c,X.env.cells.lookup x=some c
 cab:∀x c,X.fn x=true->X.env.cells.lookup x=some c->X.s₀.heap.objs.size<=c
 hd:X.calm=true->X.A.handled=none
 frames:X.A.frames=some X.stack
 stk:X.stack=X.outer\/(X.stack=X.env::X.outer/\X.env.frame=some X.env.locals)
 exf:∀b∈X.ex,b≠X.env.locals/\∀x c,X.env.cells.lookup x=some c->c≠b
 bs:∀b o,X.base.get? b=some o->X.s₀.heap.get? b=some o/\X.H₀ b=none
 bsz:X.base.objs.size<=X.s₀.heap.objs.size
 GD:∀b o,X.base.get? b=some o->b∉X.ex
 Kc:∀b∈X.ex,b∉X.fs
 ve:X.s₀.heap.FunFrames X.base X.outer
 frf:∀b∈X.fs,X.H₀ b=none
structure Inv(X:Cx)(Dz:List (Addr×Obj))(σ:List (Option V))(H:Hp)(s:Shared):Prop where
 ok:X.Ok
 os:s.os=X.s₀.os
 bare:AllBare s.gens
 base:Un X.fs X.ex X.H₀ H X.s₀.heap s.heap
 loc:∃m,s.heap.Ns X.env.locals m/\∀(i:Nat) (x:Str) (v:V),X.N[i]?=some x->σ[i]?=some (some v)->Vis X.env.scope x->∃u,RelV v u/\Look X.env s.heap m x u
 cell:∀x c,X.env.cells.lookup x=some c->∃v,s.heap.IsCell c v
 free:H X.env.locals=none
 iY:∀x c,X.env.cells.lookup x=some c->H c=none
 pin:∀p∈X.pn++Dz,s.heap.get? p.1=some p.2/\H p.1=none/\p.1≠X.env.locals/\p.1∉X.fs/\∀v,p.2.data≠.cell v
 hok:HOk X.prog X.w H s.heap
 len:σ.length=X.N.length
end
section
variable{X:Cx}{Dz:List (Addr×Obj)}{σ:List (Option V)}{H H':Hp}{s:Shared}{h':Heap}
section
variable{ch:List Addr}{x:Str}{u:Value}{a:Addr}{t':Nat}{i:Nat}{v:V}
theorem Cx.Ok.T3(ok:X.Ok){b:Addr}{o:Obj}(e:X.base.get? b=some o):b∉X.fs:=fun hb=>by have:=(ok.ve.mem hb).1;rw[e]at this;cases this
theorem Inv.bs(I:Inv X Dz σ H s):∀b o,X.base.get? b=some o->s.heap.get? b=some o/\H b=none:=fun b o e=>⟨I.base.keep b o (I.ok.bs b o e).1 (I.ok.bs b o e).2 (I.ok.T3 e) (I.ok.GD b o e),I.base.free b o (I.ok.bs b o e).1 (I.ok.bs b o e).2 (I.ok.GD b o e)⟩
theorem Inv.bk(I:Inv X Dz σ H s):∀b o,X.base.get? b=some o->s.heap.get? b=some o:=fun b o e=>(I.bs b o e).1
theorem Inv.mod(I:Inv X Dz σ H s):Mod X.K X.mg X.base:=I.ok.mod
theorem Inv.kIn(I:Inv X Dz σ H s):X.K.In s.heap:=I.ok.mod.kin.keeps I.bk
theorem Inv.lt(I:Inv X Dz σ H s):X.env.locals<s.heap.objs.size:=let ⟨_,hn,_⟩:=I.loc;hn.lt
theorem Inv.sz(I:Inv X Dz σ H s):X.s₀.heap.objs.size<=s.heap.objs.size:=Nat.le_trans I.ok.above (Yx I.lt)
theorem Inv.T4(I:Inv X Dz σ H s)(h:s.heap.objs.size<=a):a∉X.fs:=fun hb=>by obtain⟨_,o,ho,_⟩:=I.ok.ve.mem hb;exact absurd (Vr (Vl ho) (Nat.le_trans I.sz h)) (W6 _)
theorem Inv.cne(I:Inv X Dz σ H s):∀x c,X.env.cells.lookup x=some c->c≠X.env.locals:=fun x c e z=>by obtain⟨v,o,ho,hd⟩:=I.cell x c e;obtain⟨m,⟨o',es,ep,ho',hd',_⟩,_⟩:=I.loc;rw[z,ho']at ho;cases ho;rw[hd']at hd;cases hd
theorem Inv.ve(I:Inv X Dz σ H s):s.heap.FunFrames X.base X.outer:=by
 have all:∀(l:List Env),(∀b∈frs l,b∈X.fs)->X.s₀.heap.FunFrames X.base l->s.heap.FunFrames X.base l:=by
  intro l
  induction l with
  |nil=>intro _ _;trivial
  |cons env r ih=>intro hs hl;obtain⟨hk,⟨L,o,hf,hn,ho,hd⟩,hr⟩:=hl;have hL:L∈X.fs:=hs L (by unfold frs;rw[X5,hf];exact PU);obtain⟨sl,e⟩:=I.base.slot L o ho (I.ok.frf L hL) hL fun z=>I.ok.Kc L z hL;exact⟨hk,⟨L,_,hf,hn,e,hd⟩,ih (fun b hb=>hs b (by unfold frs;rw[X5,hf];exact Ds _ hb)) hr⟩
 exact all X.outer (fun _ hb=>hb) I.ok.ve
theorem Inv.stack(I:Inv X Dz σ H s):s.heap.FunFrames X.base X.stack:=by
 rcases I.ok.stk with e | ⟨e,hf⟩
 ·rw[e];exact I.ve
 ·rw[e];obtain⟨m,hn,_⟩:=I.loc;refine .cons (by rw[I.ok.kind];decide) hf hn ?_ I.ve;exact Heap.get?_none_of_le (Nat.le_trans I.ok.bsz I.ok.above)
theorem Inv.wJ(I:Inv X Dz σ H s):∀b∈frs X.stack,b∈X.env.locals::X.fs:=fun b hb=>by
 rcases I.ok.stk with e | ⟨e,hf⟩
 ·rw[e]at hb;exact Ds _ hb
 ·rw[e]at hb;unfold frs at hb;rw[X5,hf]at hb;exact hb
theorem Inv.zV(I:Inv X Dz σ H s):∀b∈frs X.stack,H b=none:=fun b hb=>by
 rcases Vq.mp (I.wJ b hb) with e | hb
 ·rw[e];exact I.free
 ·obtain⟨_,o,ho,_⟩:=I.ok.ve.mem hb;exact I.base.free b o ho (I.ok.frf b hb) fun z=>I.ok.Kc b z hb
theorem Inv.step{g':Array GenState}{t':Nat}{d':Drawn}{ch:List Addr}(I:Inv X Dz σ H s)
  (hch:∀b∈ch,(b∈X.ex\/X.s₀.heap.objs.size<=b)/\b≠X.env.locals/\(∀x c,X.env.cells.lookup x=some c->c≠b)/\∀p∈X.pn++Dz,p.1≠b)
  (keep:∀b o,b≠X.env.locals->b∉X.fs->b∉ch->s.heap.get? b=some o->H b=none->h'.get? b=some o)
  (slot:∀b o,b≠X.env.locals->b∈X.fs->b∉ch->s.heap.get? b=some o->H b=none->∃sl,h'.get? b=some { o with slots:=sl }) (free:∀b o,b∉ch->s.heap.get? b=some o->H b=none->H' b=none)
  (there:∀b o,b∉ch->s.heap.get? b=some o->∃o',h'.get? b=some o')
  (tups:∀b xs,H b=some (.tup xs)->H' b=some (.tup xs)) (vc:∀b o u,H b=some (.frz o u)->H' b=some (.frz o u)) (wI:∀b x y z,H b=some (.tbl x y z)->H' b=some (.tbl x y z))
  (ns:∀m,s.heap.Ns X.env.locals m->h'.Ns X.env.locals m) (hok:HOk X.prog X.w H' h') (hg:AllBare g') :
  Inv X Dz σ H' { s with heap:=h',gens:=g',drawn:=d',toks:=t' }:=by
 have neL:∀b o,X.s₀.heap.get? b=some o->b≠X.env.locals:=fun b o e=>VC (Vr (Vl e) I.ok.above);have neC:∀b o,X.s₀.heap.get? b=some o->b∉X.ex->b∉ch:=fun b o e hx hb=>by
  rcases (hch b hb).1 with z | z
  ·exact hx z
  ·exact absurd (Vr (Vl e) z) (W6 _)
 have cellK:∀x c,X.env.cells.lookup x=some c->∀v,s.heap.IsCell c v->h'.IsCell c v:=fun x c e v ⟨o,ho,hd⟩=>by
  have nch:c∉ch:=fun z=>(hch c z).2.2.1 x c e rfl;by_cases hc:c∈X.fs
  ·obtain⟨sl,q⟩:=slot c o (I.cne x c e) hc nch ho (I.iY x c e);exact⟨_,q,hd⟩
  ·exact⟨o,keep c o (I.cne x c e) hc nch ho (I.iY x c e),hd⟩
 refine⟨I.ok,I.os,hg,⟨fun b o e n hb hx=>?_,fun b o e n hb hx=>?_,fun b o e n hx=>?_,fun b o e hx=>?_,fun b xs e=>tups b xs (I.base.tups b xs e),fun b o xs e=>vc b o xs (I.base.vc b o xs e),fun b x y z e=>?_⟩,?_,fun x c e=>?_,?_,fun x c e=>?_,fun p hp=>?_,hok,I.len⟩
 ·exact keep b o (neL b o e) hb (neC b o e hx) (I.base.keep b o e n hb hx) (I.base.free b o e n hx)
 ·obtain⟨sl,e1⟩:=I.base.slot b o e n hb hx;obtain⟨sl',e2⟩:=slot b _ (neL b o e) hb (neC b o e hx) e1 (I.base.free b o e n hx);exact⟨sl',e2⟩
 ·obtain⟨o',e1⟩:=I.base.there b o e hx;exact free b o' (neC b o e hx) e1 (I.base.free b o e n hx)
 ·obtain⟨o',e1⟩:=I.base.there b o e hx;exact there b o' (neC b o e hx) e1
 ·exact wI _ _ _ _ (I.base.wI _ _ _ _ e)
 ·obtain⟨m,hn,hl⟩:=I.loc;refine⟨m,ns m hn,fun i x v e1 e2 e3=>?_⟩;obtain⟨u,r,l⟩:=hl i x v e1 e2 e3;refine⟨u,r,?_⟩;rcases l with l | ⟨k,c,e,z⟩
  ·exact .inl l
  ·exact .inr ⟨k,c,e,cellK x c e _ z⟩
 ·obtain⟨v,z⟩:=I.cell x c e;exact⟨v,cellK x c e v z⟩
 ·obtain⟨m,⟨o,_,_,ho,_⟩,_⟩:=I.loc;exact free _ o (fun z=>(hch _ z).2.1 rfl) ho I.free
 ·obtain⟨v,o,ho,hd⟩:=I.cell x c e;exact free c o (fun z=>(hch c z).2.2.1 x c e rfl) ho (I.iY x c e)
 ·obtain⟨e,n,ne,nf,d⟩:=I.pin p hp;have nch:p.1∉ch:=fun z=>(hch p.1 z).2.2.2 p hp rfl;exact⟨keep p.1 p.2 ne nf nch e n,free p.1 p.2 nch e n,ne,nf,d⟩
theorem Inv.un(I:Inv X Dz σ H s)(u:Un X.fs [] H H' s.heap h')(hok:HOk X.prog X.w H' h'):Inv X Dz σ H' { s with heap:=h',toks:=t' }:=by
 obtain⟨m,⟨o,es,ep,ho,r⟩,_⟩:=id I.loc;obtain⟨sl,hL⟩:=u.any ho I.free (by simp);exact I.step (g':=s.gens) (d':=s.drawn) (ch:=[]) (fun _ z=>nomatch z) (fun b o _ hb _ e n=>u.keep b o e n hb (by simp)) (fun b o _ hb _ e n=>u.slot b o e n hb (by simp)) (fun b o _ e n=>u.free b o e n (by simp)) (fun b o _ e=>u.there b o e (by simp)) u.tups u.vc u.wI (fun m' hm=>by obtain⟨o',es',ep',ho',r'⟩:=hm;rw[ho]at ho';cases ho';exact⟨_,es',ep',hL,r'⟩) hok I.bare
theorem Inv.call{g':Array GenState}{t':Nat}{d':Drawn}(I:Inv X Dz σ H s)(u:Un (frs X.stack) ch H H' s.heap h')(hok:HOk X.prog X.w H' h')(hg:AllBare g')
  (hch:∀b∈ch,(b∈X.ex\/X.s₀.heap.objs.size<=b)/\b≠X.env.locals/\(∀x c,X.env.cells.lookup x=some c->c≠b)/\∀p∈X.pn++Dz,p.1≠b) :
  Inv X Dz σ H' { s with heap:=h',gens:=g',drawn:=d',toks:=t' }:=by
 obtain⟨m,⟨o,es,ep,ho,r⟩,_⟩:=id I.loc;obtain⟨sl,hL⟩:=u.any ho I.free fun z=>(hch _ z).2.1 rfl;exact I.step (ch:=ch) hch (fun b o hL hb hc e n=>u.keep b o e n (fun z=>(Vq.mp (I.wJ b z)).elim hL hb) hc) (fun b o _ _ hc e n=>u.any e n hc) (fun b o hc e n=>u.free b o e n hc) (fun b o hc e=>u.there b o e hc) u.tups u.vc u.wI (fun m' hm=>by obtain⟨o',es',ep',ho',r'⟩:=hm;rw[ho]at ho';cases ho';exact⟨_,es',ep',hL,r'⟩) hok hg
theorem Inv.turned{t':Nat}{it:Addr}(I:Inv X Dz σ H s)(k:∀b o,b≠it->s.heap.get? b=some o->h'.get? b=some o)(hn:H it=none)(hL:it≠X.env.locals)
  (h1:it∈X.ex\/X.s₀.heap.objs.size<=it) (h2:∀x c,X.env.cells.lookup x=some c->c≠it) (h3:∀p∈X.pn++Dz,p.1≠it):Inv X Dz σ H { s with heap:=h',toks:=t' }:=by
 have nit:∀b u,H b=some u->b≠it:=fun b u e z=>by rw[z,hn]at e;cases e
 refine I.step (g':=s.gens) (d':=s.drawn) (ch:=[it]) (fun b hb=>?_) (fun b o _ _ hc e _=>k b o (fun z=>hc (by simp[z])) e) (fun b o _ _ hc e _=>⟨o.slots,k b o (fun z=>hc (by simp[z])) e⟩) (fun _ _ _ _ n=>n)
  (fun b o hc e=>⟨o,k b o (fun z=>hc (by simp[z])) e⟩) (fun _ _ e=>e) (fun _ _ _ e=>e) (fun _ _ _ _ e=>e) (fun m hm=>?_) (fun b u e=>?_) I.bare
 ·have e:b=it:=by simpa using hb
  subst e;exact⟨h1,hL,h2,h3⟩
 ·obtain⟨o,es,ep,ho,r⟩:=hm;exact⟨o,es,ep,k _ o (VS hL) ho,r⟩
 ·refine(I.hok b u e).stay (fun c v hc q=>k c v ?_ q) (fun _ q=>q) (fun _ _ _ q=>q) fun _ _ q=>q;rcases hc with z | z
  ·rw[z];exact nit b u e
  ·exact nit c _ z
theorem Inv.tok(I:Inv X Dz σ H s)(t:Nat):Inv X Dz σ H { s with toks:=t }:=I.un (h':=s.heap) (t':=t) Un.refl I.hok
theorem Inv.kept(I:Inv X Dz σ H s)(k:∀b u,s.heap.get? b=some u->h'.get? b=some u):Inv X Dz σ H { s with heap:=h',toks:=t' }:=I.un (Un.kept k) (I.hok.kept k)
theorem Inv.laid{o:HO}{t':Nat}(I:Inv X Dz σ H s)(k:∀b u,s.heap.get? b=some u->h'.get? b=some u)(hp:s.heap.objs.size<=a)(new:bC X.prog X.w (upd H a o) h' a o) :
  Inv X Dz σ (upd H a o) { s with heap:=h',toks:=t' }:=I.un (Un.laid k hp (I.hok.fresh hp)) (I.hok.laid k hp new)
theorem Inv.write{x e:Addr}{o:HO}{t':Nat}(I:Inv X Dz σ H s)(mu:Mut (H x))(he:e=x\/H e=some (.own x))(k:∀b u,b≠e->s.heap.get? b=some u->h'.get? b=some u)(heo:∃u,h'.get? e=some u)
  (new:bC X.prog X.w (upd H x o) h' x o):Inv X Dz σ (upd H x o) { s with heap:=h',toks:=t' }:=I.un (Un.write mu he k heo) (I.hok.write mu he k heo new)
theorem Inv.Eb{MG:List (Addr×Obj)}(I:Inv X Dz σ H s)(h:∀p∈MG,s.heap.get? p.1=some p.2/\H p.1=none/\p.1≠X.env.locals/\p.1∉X.fs/\∀v,p.2.data≠.cell v):Inv X MG σ H s:=
 ⟨I.ok,I.os,I.bare,I.base,I.loc,I.cell,I.free,I.iY,fun p hp=>(Vt.mp hp).elim (fun z=>I.pin p (VA _ z)) (h p),I.hok,I.len⟩
theorem wK{N:List Str}(hN:N.Nodup){i j:Nat}(a:N[i]?=some x)(b:N[j]?=some x):i=j:=by obtain⟨h1,e1⟩:=Vm.mp a;obtain⟨h2,e2⟩:=Vm.mp b;exact(List.getElem_inj hN).mp (e1.trans e2.symm)
theorem sS{M:Model}{A:Around}{E:Value->Shared->Prop}{Q:Unit->Shared->Prop}(I:Inv X Dz σ H s)(hN:X.N.Nodup)(hi:X.N[i]?=some x)(hx:Loc X.env.scope x)(r:RelV v u)
  (h:∀s',Inv X Dz (σ.set i (some v)) H s'->(∃a,WS a s.heap s'.heap/\(a=X.env.locals\/X.env.cells.lookup x=some a))->Q () s') (hf:X.fn x=true\/X.env.scope.names.lookup x=some .local:=by trivial):wpAny M A (storeName X.env x u) Q E s:=by
 obtain⟨m,hn,hl⟩:=id I.loc;have hcls:(X.env.scope.kind == .class||(X.env.scope.kind == .module&&X.env.locals != X.env.globals))=false:=by rw[I.ok.kind];rfl
 have hiσ:i<σ.length:=by rw[I.len];exact(Vm.mp hi).1
 have cne:=I.cne;have tracked:∀{a:Addr} {h':Heap},(∃o,s.heap.get? a=some o/\H a=none)->WS a s.heap h'->HOk X.prog X.w H h':=fun {a h'} ha hs b ob e=>by
  obtain⟨_,_,hfree⟩:=ha;refine(I.hok b ob e).stay (fun c w' hc q=>(hs.2 c ?_).trans q) (fun _ q=>q) (fun _ _ _ q=>q) fun _ _ q=>q;rintro rfl;rcases hc with rfl | hc
  ·rw[hfree]at e;cases e
  ·rw[hfree]at hc;cases hc
 rcases hx with hk | hk
 ·refine wpAny_storeName_local hk hn (fun h' hn' hs=>?_) hcls;obtain⟨oL,_,_,hoL,_⟩:=id hn;refine h _ ⟨I.ok,I.os,I.bare,⟨fun b o e n hb hx=>?_,fun b o e n hb hx=>?_,I.base.free,fun b o e hx=>?_,I.base.tups,I.base.vc,I.base.wI⟩,⟨_,hn',fun j y v' e1 e2 e3=>?_⟩,fun y c e=>?_,I.free,I.iY,fun p hp=>?_,tracked ⟨oL,hoL,I.free⟩ hs,by simpa using I.len⟩ ⟨_,hs,.inl rfl⟩
  ·exact(hs.2 b (VC (Vr (Vl e) I.ok.above))).trans (I.base.keep b o e n hb hx)
  ·obtain⟨sl,e1⟩:=I.base.slot b o e n hb hx;exact⟨sl,(hs.2 b (VC (Vr (Vl e) I.ok.above))).trans e1⟩
  ·obtain⟨o',e1⟩:=I.base.there b o e hx;exact⟨o',(hs.2 b (VC (Vr (Vl e) I.ok.above))).trans e1⟩
  ·by_cases hj:j=i
   ·subst hj;rw[hi]at e1;cases e1;rw[Vz hiσ]at e2;cases e2;exact⟨u,r,.inl ⟨hk,by simp⟩⟩
   ·rw[gc (VS hj)]at e2;obtain⟨u',r',q⟩:=hl j y v' e1 e2 e3;refine⟨u',r',?_⟩;rcases q with⟨k,e⟩ | ⟨k,c,e,z⟩
    ·refine .inl ⟨k,?_⟩;have:y≠x:=fun e=>hj (wK hN e1 (e▸hi));simp[this,e]
    ·exact .inr ⟨k,c,e,z.sameBut hs (cne y c e)⟩
  ·obtain⟨w',z⟩:=I.cell y c e;exact⟨w',z.sameBut hs (cne y c e)⟩
  ·obtain⟨e,n,ne,nf,d⟩:=I.pin p hp;exact⟨(hs.2 p.1 ne).trans e,n,ne,nf,d⟩
 ·have hfn:X.fn x=true:=by
   rcases hf with z | z
   ·exact z
   ·rw[z]at hk;cases hk
  obtain⟨c,hc⟩:=I.ok.has x (.inl hk);obtain⟨w',z⟩:=I.cell x c hc;refine wpAny_storeName_cell I.ok.kind hk hc z (fun h' hc' hs=>?_);obtain⟨oc,hoc,T5⟩:=id z;refine h { s with heap:=h' } ⟨I.ok,I.os,I.bare,⟨fun b o e n hb hx=>?_,fun b o e n hb hx=>?_,I.base.free,fun b o e hx=>?_,I.base.tups,I.base.vc,I.base.wI⟩,⟨m,hn.sameBut hs (VS (cne x c hc)),fun j y v' e1 e2 e3=>?_⟩,fun y c' e=>?_,I.free,I.iY,fun p hp=>?_,tracked ⟨oc,hoc,I.iY x c hc⟩ hs,by simpa using I.len⟩ ⟨c,hs,.inr hc⟩
  ·exact(hs.2 b (VC (Vr (Vl e) (I.ok.cab x c hfn hc)))).trans (I.base.keep b o e n hb hx)
  ·obtain⟨sl,e1⟩:=I.base.slot b o e n hb hx;exact⟨sl,(hs.2 b (VC (Vr (Vl e) (I.ok.cab x c hfn hc)))).trans e1⟩
  ·obtain⟨o',e1⟩:=I.base.there b o e hx;exact⟨o',(hs.2 b (VC (Vr (Vl e) (I.ok.cab x c hfn hc)))).trans e1⟩
  ·by_cases hj:j=i
   ·subst hj;rw[hi]at e1;cases e1;rw[Vz hiσ]at e2;cases e2;exact⟨u,r,.inr ⟨.inl hk,c,hc,hc'⟩⟩
   ·rw[gc (VS hj)]at e2;obtain⟨u',r',q⟩:=hl j y v' e1 e2 e3;refine⟨u',r',?_⟩;rcases q with q | ⟨k,c',e,z'⟩
    ·exact .inl q
    ·refine .inr ⟨k,c',e,z'.sameBut hs ?_⟩;rintro rfl;exact hj (wK hN e1 (I.ok.inj _ _ _ e hc▸hi))
  ·by_cases hcc:c'=c
   ·subst hcc;exact⟨_,hc'⟩
   ·obtain⟨w2,z2⟩:=I.cell y c' e;exact⟨w2,z2.sameBut hs hcc⟩
  ·obtain⟨e,n,ne,nf,d⟩:=I.pin p hp;refine⟨(hs.2 p.1 ?_).trans e,n,ne,nf,d⟩;intro q;rw[q,hoc]at e;have q':oc=p.2:=Option.some.inj e;exact d w' (by rw[<- q'];exact T5)
theorem AV{M:Model}{A:Around}{E:Value->Shared->Prop}{Q:Unit->Shared->Prop}(I:Inv X Dz σ H s)(hN:X.N.Nodup)(hi:X.N[i]?=some x)(hx:Loc X.env.scope x)(r:RelV v u)
  (h:∀s',Inv X Dz (σ.set i (some v)) H s'->Q () s') (hf:X.fn x=true\/X.env.scope.names.lookup x=some .local:=by trivial):wpAny M A (storeName X.env x u) Q E s:=
 sS I hN hi hx r (fun s' I' _=>h s' I') hf
theorem Inv.QW{s':Shared}(I:Inv X Dz σ H s)(ho:s'.os=s.os)(u:Un (frs X.stack) ch H H' s.heap s'.heap)(hok:HOk X.prog X.w H' s'.heap)(hg:AllBare s'.gens)
  (hch:∀b∈ch,(b∈X.ex\/X.s₀.heap.objs.size<=b)/\b≠X.env.locals/\(∀x c,X.env.cells.lookup x=some c->c≠b)/\∀p∈X.pn++Dz,p.1≠b):Inv X Dz σ H' s':=by
 obtain⟨h',g',d',t',o'⟩:=s';have e:o'=s.os:=ho;subst e;exact I.call (g':=g') (t':=t') (d':=d') u hok hg hch
end
end
noncomputable abbrev XK:=Value->Option Addr->Hp->Prop
noncomputable abbrev St:=List (Option V)
noncomputable abbrev VK:=V->Hp->Prop
noncomputable abbrev TE:=St->Hp->VK->Prop
noncomputable abbrev TT:=St->Hp->(Bool->Hp->Prop)->Prop
noncomputable abbrev TA:=St->Hp->(List V->Hp->Prop)->Prop
structure Ends where
 nx:St->Hp->Prop
 rt:VK
 bk:St->Hp->Prop:=fun _ _=>False
 ct:St->Hp->Prop:=fun _ _=>False
noncomputable abbrev TS:=Ends->St->Hp->Prop
def EP(X:Cx)(Dz:List (Addr×Obj))(σ:St)(Q:VK)(u:Value)(s':Shared):Prop:=∃v H',Inv X Dz σ H' s'/\RelV v u/\Q v H'
def TP(X:Cx)(Dz:List (Addr×Obj))(σ:St)(Q:Bool->Hp->Prop)(b:Bool)(s':Shared):Prop:=∃H',Inv X Dz σ H' s'/\Q b H'
def AP(X:Cx)(Dz:List (Addr×Obj))(σ:St)(Q:List V->Hp->Prop)(us:List Value)(s':Shared):Prop:=∃vs H',Inv X Dz σ H' s'/\Vals vs us/\Q vs H'
def SP(X:Cx)(Dz:List (Addr×Obj))(D:Ends)(f:Flow)(s':Shared):Prop:=
 match f with
 |.next=>∃σ' H',Inv X Dz σ' H' s'/\D.nx σ' H'
 |.brk=>∃σ' H',Inv X Dz σ' H' s'/\D.bk σ' H'
 |.cont=>∃σ' H',Inv X Dz σ' H' s'/\D.ct σ' H'
 |.ret u=>∃v σ' H',Inv X Dz σ' H' s'/\RelV v u/\D.rt v H'
def PE(X:Cx)(e:Expr)(t:TE):Prop:=
 ∀(Dz:List (Addr×Obj)) (s:Shared) (σ:St) (H:Hp) (Q:VK),Inv X Dz σ H s->t σ H Q->wpAny (model X.prog X.w) X.A (eval e X.env) (EP X Dz σ Q) X.xe s
def PT(X:Cx)(e:Expr)(t:TT):Prop:=
 ∀(Dz:List (Addr×Obj)) (s:Shared) (σ:St) (H:Hp) (Q:Bool->Hp->Prop),Inv X Dz σ H s->t σ H Q->wpAny (model X.prog X.w) X.A (isTrue e X.env (eval e X.env)) (TP X Dz σ Q) X.xe s
def PW(X:Cx)(e:Expr)(t:TT):Prop:=
 ∀(whole:Sem Value) (Dz:List (Addr×Obj)) (s:Shared) (σ:St) (H:Hp) (Q:Bool->Hp->Prop),Inv X Dz σ H s->t σ H Q->wpAny (model X.prog X.w) X.A (isTrue e X.env whole) (TP X Dz σ Q) X.xe s
theorem PW.pt{X:Cx}{e:Expr}{t:TT}(h:PW X e t):PT X e t:=h _
def PA(X:Cx)(es:List Expr)(t:TA):Prop:=
 ∀(pos:Pos) (Dz:List (Addr×Obj)) (s:Shared) (σ:St) (H:Hp) (Q:List V->Hp->Prop),Inv X Dz σ H s->t σ H Q->wpAny (model X.prog X.w) X.A (spliced (backTo pos (starEach es X.env))) (AP X Dz σ Q) X.xe s
def PS(X:Cx)(st:Stmt)(t:TS):Prop:=
 ∀(Dz:List (Addr×Obj)) (s:Shared) (σ:St) (H:Hp) (D:Ends),Inv X Dz σ H s->t D σ H->wpAny (model X.prog X.w) X.A (exec st X.env) (SP X Dz D) X.xe s
def PSs(X:Cx)(st:List Stmt)(t:TS):Prop:=
 ∀(Dz:List (Addr×Obj)) (s:Shared) (σ:St) (H:Hp) (D:Ends),Inv X Dz σ H s->t D σ H->wpAny (model X.prog X.w) X.A (execs st X.env) (SP X Dz D) X.xe s
theorem thn{α:Type}{t:Sem α}{Q Q':α->Shared->Prop}{M:Model}{A:Around}{E:Value->Shared->Prop}{s:Shared}(h:wpAny M A t Q E s)(hQ:∀a s,Q a s->Q' a s):wpAny M A t Q' E s:=wpAny_mono h hQ fun _ _ x=>x
section
variable{X:Cx}
section
variable{Q:Value->Shared->Prop}{Dz:List (Addr×Obj)}{u:Value}{x:Str}{s:Shared}{t:TE}{H:Hp}{σ:St}{v:V}
def yE(i:Nat):TE:=fun σ H Q=>∃v,σ[i]?=some (some v)/\Q v H
def tC(v:V):TE:=fun _ H Q=>Q v H
theorem kG{i:Nat}{pos:Pos}(hN:X.N[i]?=some x)(hv:Vis X.env.scope x)(hd:(x == ("__debug__" : Str))=false:=by decide)(SK:(x == ("__classdict__" : Str))=false:=by decide):PE X (.Name x pos) (yE i):=by
 intro Dz s σ H Q I h;obtain⟨v,e,h⟩:=h;obtain⟨m,hn,hl⟩:=I.loc;obtain⟨u,r,l⟩:=hl i x v hN e hv;have Qi:EP X Dz σ Q u s:=⟨v,H,I,r,h⟩
 rcases l with⟨hk,hm⟩ | ⟨hk,c,hc,hcell⟩
 ·exact wpAny_Name (wpAny_loadName_local I.ok.kind hk hn hm Qi) hd
 ·rcases hk with hk | hk
  ·exact wpAny_Name (wpAny_loadName_cell I.ok.kind hk hc hcell Qi) hd
  ·exact wpAny_Name (wpAny_loadName_free I.ok.kind hk hc hcell Qi SK) hd
theorem NT{i j pos}:PE X (.Constant (.int i) j pos) (tC (.int i)):=fun _ _ _ H _ I h=>wpAny_Constant_int ⟨.int i,H,I.tok _,⟨_,rfl⟩,h⟩
theorem QX{b j pos}:PE X (.Constant (.bool b) j pos) (tC (.bl b)):=fun _ _ _ H _ I h=>Constant_bool ⟨.bl b,H,I,rfl,h⟩
theorem NU{j pos}:PE X (.Constant .none j pos) (tC .non):=fun _ _ _ H _ I h=>Constant_none ⟨.non,H,I,rfl,h⟩
def Gl(X:Cx)(x:Str):Prop:=X.env.kindOf x=some .globalImplicit
theorem qV{E:Value->Shared->Prop}{pos:Pos}(I:Inv X Dz σ H s)(hg:Gl X x)(hm:X.mg x=some u)(h:Q u s)
  (hd:(x == ("__debug__" : Str))=false:=by decide):wpAny (model X.prog X.w) X.A (eval (.Name x pos) X.env) Q E s:=
 Calls.Name_function_global I.ok.kind hg (Calls.loadGlobal_global (by rw[I.ok.glob];exact I.mod.glob.keeps I.bk) hm h) hd
theorem sU{E:Value->Shared->Prop}{pos:Pos}(I:Inv X Dz σ H s)(hg:Gl X x)(hm:X.mg x=none)(hv:bootBuiltins x=some u)(h:Q u s)
  (hn:x ≠ "__name__" := by decide) (hd:(x == ("__debug__" : Str))=false:=by decide):wpAny (model X.prog X.w) X.A (eval (.Name x pos) X.env) Q E s:=by
 obtain⟨mb,h1,h2⟩:=I.mod.blt;exact Calls.Name_function_global I.ok.kind hg (Calls.loadGlobal_builtin (by rw[I.ok.glob];exact I.mod.glob.keeps I.bk) hm (by rw[I.ok.blt];exact h1.keeps I.bk) ((h2 x hn).trans hv) h) hd
theorem Kd{pos:Pos}(hg:Gl X x)(hm:X.mg x=some u)(r:RelV v u)(hd:(x == ("__debug__" : Str))=false:=by decide):PE X (.Name x pos) (tC v):=
 fun _ _ _ H _ I h=>qV I hg hm ⟨v,H,I,r,h⟩ hd
theorem Ec{pos:Pos}(hg:Gl X x)(hm:X.mg x=none)(hv:bootBuiltins x=some u)(r:RelV v u)(hn:x ≠ "__name__" := by decide)(hd:(x == ("__debug__" : Str))=false:=by decide):PE X (.Name x pos) (tC v):=
 fun _ _ _ H _ I h=>sU I hg hm hv ⟨v,H,I,r,h⟩ hn hd
variable{a b:Expr}{ta tb:TE}{pos:Pos}
def PC(X:Cx)(op:CmpOp)(a b:Expr)(t:TE):Prop:=
 ∀(Dz:List (Addr×Obj)) (s:Shared) (σ:St) (H:Hp) (Q:VK),Inv X Dz σ H s->t σ H Q ->
  wpAny (model X.prog X.w) X.A (eval a X.env) (fun v s₁=>wpAny (model X.prog X.w) X.A (eval b X.env) (fun u s₂=>wpAny (model X.prog X.w) X.A (compareOp op v u) (EP X Dz σ Q) X.xe s₂) X.xe s₁) X.xe s
def tB(t:TE):TT:=fun σ H Q=>t σ H fun x H1=>∃c,x=.bl c/\Q c H1
theorem CK{op:CmpOp}(h:PC X op a b t)(h1:behindInMarks op b=false:=by first | exact QY _ (by decide) (by decide) | rfl):PT X (.Compare a [op] [b] pos) (tB t):=by intro Dz s σ H Q I hw;refine wpAny_isTrue_Compare1 (thn (h Dz s σ H _ I hw) fun v s1 h1=>thn h1 fun u s2 h2=>thn h2 fun c s3 ⟨x,H1,I1,r1,q1⟩=>?_) h1;obtain⟨d,rfl,q⟩:=q1;cases r1;exact wpAny_truthy_bool ⟨H1,I1,q⟩
theorem NV{e:Expr}(h:PE X e t)(he:∀whole,isTrue e X.env whole=(do let v <- whole;standAt e.pos;holding [v] (truthy v)):=by intro _;rfl):PT X e (tB t):=by intro Dz s σ H Q I hw;refine isTrue_plain (thn (h Dz s σ H _ I hw) fun v s1 ⟨x,H1,I1,r1,q1⟩=>?_) (he _);obtain⟨d,rfl,q⟩:=q1;cases r1;exact wpAny_truthy_bool ⟨H1,I1,q⟩
variable{tA tB':TT}{Nl:List Expr}
def o7(t u:TT):TT:=fun σ H Q=>t σ H fun c H1=>if c=true then u σ H1 Q else Q false H1
def tOr(t u:TT):TT:=fun σ H Q=>t σ H fun c H1=>if c=true then Q true H1 else u σ H1 Q
def sV(t:TT):TT:=fun σ H Q=>t σ H fun c H1=>Q (!c) H1
theorem pw_and1(ha:PT X a tA):PW X (.BoolOp .And [a] pos) tA:=by
 intro wh Dz s σ H Q I h;refine isTrue_and (thn (ha Dz s σ H Q I h) fun c s1 e=>?_);cases c with
 |true=>exact isTrue_and_nil e
 |false=>exact e
theorem pw_or1(ha:PT X a tA):PW X (.BoolOp .Or [a] pos) tA:=by
 intro wh Dz s σ H Q I h;refine isTrue_or (thn (ha Dz s σ H Q I h) fun c s1 e=>?_);cases c with
 |false=>exact isTrue_or_nil e
 |true=>exact e
theorem pw_and(ha:PT X a tA)(hb:PW X (.BoolOp .And (b::Nl) pos) tB'):PW X (.BoolOp .And (a::b::Nl) pos) (o7 tA tB'):=by
 intro wh Dz s σ H Q I h;refine isTrue_and (thn (ha Dz s σ H _ I h) fun c s1 ⟨H1,I1,q1⟩=>?_);cases c with
 |true=>exact hb wh Dz s1 σ H1 Q I1 q1
 |false=>exact⟨H1,I1,q1⟩
theorem pw_or(ha:PT X a tA)(hb:PW X (.BoolOp .Or (b::Nl) pos) tB'):PW X (.BoolOp .Or (a::b::Nl) pos) (tOr tA tB'):=by
 intro wh Dz s σ H Q I h;refine isTrue_or (thn (ha Dz s σ H _ I h) fun c s1 ⟨H1,I1,q1⟩=>?_);cases c with
 |true=>exact⟨H1,I1,q1⟩
 |false=>exact hb wh Dz s1 σ H1 Q I1 q1
theorem NW(ha:PT X a tA):PT X (.UnaryOp .Not a pos) (sV tA):=by intro Dz s σ H Q I h;exact isTrue_not (ha Dz s σ H (fun c H1=>Q (!c) H1) I h)
def MH(ta tb:TE):TE:=fun σ H Q=>ta σ H fun x H1=>∃c,x=.bl c/\if c=true then tb σ H1 Q else Q (.bl false) H1
def MK(ta:TE):TE:=fun σ H Q=>ta σ H fun x H1=>∃c,x=.bl c/\Q (.bl (!c)) H1
theorem NX{op}(h:PE X a t):PE X (.BoolOp op [a] pos) t:=fun Dz s σ H Q I hw=>BoolOp_one (h Dz s σ H Q I hw)
theorem NY(ha:PE X a ta)(hb:PE X (.BoolOp .And (b::Nl) pos) tb):PE X (.BoolOp .And (a::b::Nl) pos) (MH ta tb):=by
 intro Dz s σ H Q I h;refine BoolOp_and (thn (ha Dz s σ H _ I h) fun v s1 ⟨x,H1,I1,r1,q1⟩=>?_);obtain⟨c,rfl,q1⟩:=q1;cases r1;refine wpAny_truthy_bool ?_;cases c with
 |true=>exact hb Dz s1 σ H1 Q I1 q1
 |false=>exact⟨.bl false,H1,I1,rfl,q1⟩
theorem NZ(ha:PE X a ta):PE X (.UnaryOp .Not a pos) (MK ta):=by intro Dz s σ H Q I h;refine UnaryOp_ (thn (ha Dz s σ H _ I h) fun v s1 ⟨x,H1,I1,r1,q1⟩=>?_);obtain⟨c,rfl,q1⟩:=q1;cases r1;exact not_of (wpAny_truthy_bool ⟨.bl (!c),H1,I1,rfl,q1⟩)
end
end
def SqL(K:Dk)(H:Hp)(a:Addr)(xs:List V):Prop:=
 Rd H a (.lst xs) \/
  ∃(o:Obj) (its:Array Value) (n:Nat),K.lookup a=some o/\o.cls=.type "list" /\ o.dict=none/\o.data=.seq its n/\its.size<=sizeLine/\Vals xs its.toList
def SqT(K:Dk)(H:Hp)(a:Addr)(xs:List V):Prop:=
 Rd H a (.tup xs) \/
  ∃(o:Obj) (its:Array Value) (n:Nat),K.lookup a=some o/\o.cls=.type "tuple" /\ o.data=.seq its n/\its.size<=sizeLine/\Vals xs its.toList
noncomputable def T6:Value->Option V
 |.none=>some .non
 |.bool b=>some (.bl b)
 |.int i _=>some (.int i)
 |.str x _=>some (.str x)
 |.bytes b _=>some (.byt b)
 |.float b _=>some (.flt b)
 |.ref a=>some (.ref a)
 |.type n=>some (.ty n)
 |_=>none
theorem RelV.abs{x:V}{u:Value}(r:RelV x u):T6 u=some x:=by
 cases x with
 |non=>cases r;rfl
 |bl _=>cases r;rfl
 |int _=>obtain⟨t,rfl⟩:=r;rfl
 |str _=>obtain⟨t,rfl⟩:=r;rfl
 |byt _=>obtain⟨t,rfl⟩:=r;rfl
 |flt _=>obtain⟨t,rfl⟩:=r;rfl
 |ref _=>cases r;rfl
 |ty _=>cases r;rfl
theorem RelV.inj{x y:V}{u:Value}(r:RelV x u)(q:RelV y u):x=y:=Option.some.inj (r.abs.symm.trans q.abs)
theorem Vals.inj:∀{xs ys:List V} {us:List Value},Vals xs us->Vals ys us->xs=ys
 |_,_,_,.nil,.nil=>rfl
 |_,_,_,.cons r t,.cons r' t'=>by rw[r.inj r',Vals.inj t t']
section
variable{X:Cx}{Dz:List (Addr×Obj)}{σ:St}{H:Hp}{s:Shared}{a:Addr}{xs ys:List V}
theorem SqT.of{K:Dk}(h:H a=some (.tup xs)):SqT K H a xs:=.inl (.inl h)
theorem Inv.list(I:Inv X Dz σ H s)(h:SqL X.K H a xs):∃its:List Value,Vals xs its/\PlainL s.heap a its.toArray/\xs.length<=sizeLine:=by
 rcases h with h | ⟨o,its,n,hk,hc,hd,hs,hz,r⟩
 ·obtain⟨z,its,n,r,e⟩:=h.ok I.hok;exact⟨its,r,⟨_,n,e,rfl,rfl,rfl⟩,z⟩
 ·refine⟨its.toList,r,⟨o,n,I.kIn a o hk,hc,hd,by simpa using hs⟩,?_⟩;have e:=r.length;simp only[Vu]at e
  lia
theorem Inv.tuple(I:Inv X Dz σ H s)(h:SqT X.K H a xs):∃its:List Value,Vals xs its/\IsTup s.heap a its.toArray/\xs.length<=sizeLine:=by
 rcases h with h | ⟨o,its,n,hk,hc,hs,hz,r⟩
 ·obtain⟨z,its,r,p⟩:=h.ok I.hok;exact⟨its,r,p,z⟩
 ·refine⟨its.toList,r,⟨o,I.kIn a o hk,hc,n,by simpa using hs⟩,?_⟩;have e:=r.length;simp only[Vu]at e
  lia
theorem Inv.AW(I:Inv X Dz σ H s)(h:SqL X.K H a xs)(h':SqL X.K H a ys):xs=ys:=by
 obtain⟨its,r,⟨o,n,e,_,_,d⟩,_⟩:=I.list h;obtain⟨its',r',⟨o',n',e',_,_,d'⟩,_⟩:=I.list h';rw[e]at e';cases e';rw[d]at d';injection d' with d1 _
 have:its=its':=by simpa using congrArg Array.toList d1
 subst this;exact r.inj r'
theorem Inv.Ff(I:Inv X Dz σ H s)(h:SqT X.K H a xs)(h':SqT X.K H a ys):xs=ys:=by
 obtain⟨its,r,⟨o,e,_,n,d⟩,_⟩:=I.tuple h;obtain⟨its',r',⟨o',e',_,n',d'⟩,_⟩:=I.tuple h';rw[e]at e';cases e';rw[d]at d';injection d' with d1 _
 have:its=its':=by simpa using congrArg Array.toList d1
 subst this;exact r.inj r'
end
noncomputable abbrev Cx.yF(X:Cx)(E:Value->Shared->Prop):Cx:={ X with xe:=E }
noncomputable abbrev Cx.nox(X:Cx):Cx:=X.yF fun _ _=>False
theorem Cx.Ok.yF{X:Cx}(ok:X.Ok)(E:Value->Shared->Prop):(X.yF E).Ok:=
 ⟨ok.mod,ok.kind,ok.glob,ok.blt,ok.above,ok.inj,ok.has,ok.cab,ok.hd,ok.frames,ok.stk,ok.exf,ok.bs,ok.bsz,ok.GD,ok.Kc,ok.ve,ok.frf⟩
theorem Cx.Ok.lV{X:Cx}{E:Value->Shared->Prop}(ok:(X.yF E).Ok):X.Ok:=
 ⟨ok.mod,ok.kind,ok.glob,ok.blt,ok.above,ok.inj,ok.has,ok.cab,ok.hd,ok.frames,ok.stk,ok.exf,ok.bs,ok.bsz,ok.GD,ok.Kc,ok.ve,ok.frf⟩
section
variable{X:Cx}{Dz:List (Addr×Obj)}{σ:St}{H:Hp}{s:Shared}{E:Value->Shared->Prop}
theorem Inv.yF(I:Inv X Dz σ H s)(E:Value->Shared->Prop):Inv (X.yF E) Dz σ H s:=⟨I.ok.yF E,I.os,I.bare,I.base,I.loc,I.cell,I.free,I.iY,I.pin,I.hok,I.len⟩
theorem Inv.lV(I:Inv (X.yF E) Dz σ H s):Inv X Dz σ H s:=⟨I.ok.lV,I.os,I.bare,I.base,I.loc,I.cell,I.free,I.iY,I.pin,I.hok,I.len⟩
theorem SP.lV{D:Ends}{f:Flow}{s':Shared}(h:SP (X.yF E) Dz D f s'):SP X Dz D f s':=by
 cases f with
 |next=>obtain⟨σ',H',I,q⟩:=h;exact⟨σ',H',I.lV,q⟩
 |brk=>obtain⟨σ',H',I,q⟩:=h;exact⟨σ',H',I.lV,q⟩
 |cont=>obtain⟨σ',H',I,q⟩:=h;exact⟨σ',H',I.lV,q⟩
 |ret u=>obtain⟨v,σ',H',I,r,q⟩:=h;exact⟨v,σ',H',I.lV,r,q⟩
theorem PSs.nox{st:List Stmt}{t:TS}(h:PSs X.nox st t):PSs X st t:=fun Dz s σ H D I hw=>wpAny_mono (h Dz s σ H D (I.yF _) hw) (fun _ _ q=>q.lV) fun _ _ z=>Vx z
end
section
variable{X:Cx}{st:Stmt}{Nl:List Stmt}{t u:TS}{e:Expr}{te:TE}{pos:Pos}
def ML:TS:=fun D σ H=>D.nx σ H
def CL(t u:TS):TS:=fun D σ H=>t { D with nx:=u D } σ H
theorem Ke:PSs X [] ML:=fun _ _ σ H _ I h=>wpAny_execs_nil ⟨σ,H,I,h⟩
theorem kc(h1:PS X st t)(h2:PSs X Nl u):PSs X (st::Nl) (CL t u):=by
 intro Dz s σ H D I h;refine wpAny_execs_cons (thn (h1 Dz s σ H { D with nx:=u D } I h) fun f s1 q=>?_);cases f with
 |next=>obtain⟨σ',H',I',q⟩:=q;exact h2 Dz s1 σ' H' D I' q
 |ret v=>exact q
 |brk=>exact q
 |cont=>exact q
theorem Ed(h1:PS X st t):PSs X [st] t:=by
 intro Dz s σ H D I h;refine wpAny_execs_cons (thn (h1 Dz s σ H D I h) fun f s1 q=>?_);cases f with
 |next=>exact wpAny_execs_nil q
 |ret v=>exact q
 |brk=>exact q
 |cont=>exact q
theorem Inv.quiet{Dz:List (Addr×Obj)}{σ:St}{H:Hp}{s:Shared}(I:Inv X Dz σ H s):interactive X.env=false:=by simp[interactive,I.ok.kind]
def AX(te:TE):TS:=fun D σ H=>te σ H fun _ H1=>D.nx σ H1
theorem qW(he:PE X e te)(hs:swapsWith e none pos.line X.env=pure false:=by rfl):PS X (.Expr e pos) (AX te):=by intro Dz s σ H D I h;exact wpAny_Expr_any (thn (he Dz s σ H _ I h) fun v s1 ⟨x,H1,I1,r1,q1⟩=>⟨σ,H1,I1,q1⟩) I.quiet hs
def QZ(te:TE):TS:=fun D σ H=>te σ H D.rt
theorem N1(he:PE X e te):PS X (.Return (some e) pos) (QZ te):=by intro Dz s σ H D I h;exact wpAny_Return_some (thn (he Dz s σ H _ I h) fun v s1 ⟨x,H1,I1,r1,q1⟩=>⟨x,σ,H1,I1,r1,q1⟩)
def N2(c:TT)(t u:TS):TS:=fun D σ H=>c σ H fun b H1=>if b=true then t D σ H1 else u D σ H1
theorem GF{c:Expr}{a b:List Stmt}{tc:TT}(hc:PT X c tc)(ha:PSs X a t)(hb:PSs X b u):PS X (.If c a b pos) (N2 tc t u):=by
 intro Dz s σ H D I h;refine wpAny_If (thn (hc Dz s σ H _ I h) fun d s1 ⟨H1,I1,q1⟩=>?_);cases d with
 |true=>exact ha Dz s1 σ H1 D I1 q1
 |false=>exact hb Dz s1 σ H1 D I1 q1
def N3:TS:=fun _ _ _=>False
theorem GG:PS X st N3:=fun _ _ _ _ _ _ h=>h.elim
end
noncomputable abbrev TG:=V->St->Hp->(St->Hp->Prop)->Prop
noncomputable abbrev TGs:=List V->St->Hp->(St->Hp->Prop)->Prop
def PG(X:Cx)(target:Expr)(t:TG):Prop:=
 ∀(Dz:List (Addr×Obj)) (s:Shared) (σ:St) (H:Hp) (v:V) (u:Value) (Q:St->Hp->Prop),Inv X Dz σ H s->RelV v u->t v σ H Q ->
  wpAny (model X.prog X.w) X.A (assign target X.env u) (fun _ s'=>∃σ' H',Inv X Dz σ' H' s'/\Q σ' H') X.xe s
def PGs(X:Cx)(ts:List Expr)(t:TGs):Prop:=
 ∀(Dz:List (Addr×Obj)) (s:Shared) (σ:St) (H:Hp) (vs:List V) (us:List Value) (Q:St->Hp->Prop),Inv X Dz σ H s->Vals vs us->t vs σ H Q ->
  wpAny (model X.prog X.w) X.A (assignInOrder ((assignEach ts X.env).map (·.2)) us) (fun _ s'=>∃σ' H',Inv X Dz σ' H' s'/\Q σ' H') X.xe s
noncomputable abbrev N4:=V->V->V->Hp->(Hp->Prop)->Prop
def Q0(X:Cx)(t:N4):Prop:=
 ∀(Dz:List (Addr×Obj)) (s:Shared) (σ:St) (H:Hp) (o i v:V) (ov iv u:Value) (Q:Hp->Prop),Inv X Dz σ H s->RelV o ov->RelV i iv->RelV v u->t o i v H Q ->
  wpAny (model X.prog X.w) X.A (setItem ov iv u) (fun _ s'=>∃H',Inv X Dz σ H' s'/\Q H') X.xe s
section
variable{X:Cx}{pos:Pos}
section
variable{es:List Expr}{e:Expr}{i:Nat}{x:Str}{te:TE}
def lJ(i:Nat):TG:=fun v σ H Q=>Q (σ.set i (some v)) H
theorem zW(hN:X.N.Nodup)(hi:X.N[i]?=some x)(hx:Loc X.env.scope x)(hf:X.fn x=true\/X.env.scope.names.lookup x=some .local:=by trivial):PG X (.Name x pos) (lJ i):=by intro Dz s σ H v u Q I r h;exact wpAny_assign_Name (AV I hN hi hx r (fun s' I'=>⟨_,H,I',h⟩) hf)
def Q2:TGs:=fun vs σ H Q=>vs=[]/\Q σ H
def MM(t:TG)(u:TGs):TGs:=fun vs σ H Q=>∃v r,vs=v::r/\t v σ H fun σ' H'=>u r σ' H' Q
theorem Kf:PGs X [] Q2:=by intro Dz s σ H vs us Q I r h;obtain⟨e,h⟩:=h;subst e;cases r;exact assignInOrder_nil ⟨σ,H,I,h⟩
theorem GH{t:TG}{u:TGs}(h1:PG X e t)(h2:PGs X es u)
  (hs:(assignEach (e::es) X.env).map (·.2)=assign e X.env::(assignEach es X.env).map (·.2):=by rfl):PGs X (e::es) (MM t u):=by
 intro Dz s σ H vs us Q I r h;obtain⟨v,vr,e1,h⟩:=h;subst e1;cases r with
 |cons r rr=>rw[hs];refine assignInOrder_cons (thn (h1 Dz s σ H _ _ _ I r h) fun _ s1 ⟨σ1,H1,I1,q1⟩=>?_);exact h2 Dz s1 σ1 H1 _ _ Q I1 rr q1
def Q3(K:Dk)(n:Nat)(t:TGs):TG:=fun v σ H Q=>∃a xs,v=.ref a/\SqT K H a xs/\xs.length=n/\t xs σ H Q
theorem N5{k:Nat}{t:TGs}{n:Nat}(hc:X.calm=true)(h:PGs X es t)
  (hn:(assignEach es X.env).length=n:=by rfl) (hst:(assignEach es X.env).findIdx? (·.1)=none:=by rfl):PG X (.Tuple es k pos) (Q3 X.K n t):=by
 intro Dz s σ H v u Q I r hw;obtain⟨a,xs,e1,hq,hl,hw⟩:=hw;subst e1;cases r;obtain⟨its,rv,ht,hz⟩:=I.tuple hq;refine assign_Tuple_tuple (I.ok.hd hc) ht (by simp[hn,<- hl,rv.length]) hst fun h' hx=>?_;have I1:Inv X Dz σ H { s with heap:=h' }:=I.kept (t':=s.toks) fun b o e=>hx b o (VC (Vl e)) e;exact h Dz _ σ H xs _ Q I1 (by simpa using rv) hw
def vf(to ti:TE)(t:N4):TG:=fun v σ H Q=>to σ H fun o H1=>ti σ H1 fun i H2=>t o i v H2 fun H3=>Q σ H3
theorem N6{o i:Expr}{to ti:TE}{t:N4}(ho:PE X o to)(hi:PE X i ti)(hs:Q0 X t)
  (ha:∀ v,assign (.Subscript o i pos) X.env v=(do
   let ov <- holding [v] (eval o X.env)
   let iv <- holding [v,ov] (eval i X.env)
   standAt pos
   holding [v,ov,iv] (setItem ov iv v)
   release [v,ov,iv] []):=by intro _;rfl):PG X (.Subscript o i pos) (vf to ti t):=by
 intro Dz s σ H v u Q I r h;rw[ha];refine wpAny_bind (wpAny_holding (thn (ho Dz s σ H _ I h) fun ov s1 ⟨x,H1,I1,r1,q1⟩=>?_));refine wpAny_bind (wpAny_holding (thn (hi Dz s1 σ H1 _ I1 q1) fun iv s2 ⟨y,H2,I2,r2,q2⟩=>?_));refine wpAny_bind (wpAny_standAt (wpAny_bind (wpAny_holding (thn (hs Dz s2 σ H2 x y v ov iv u _ I2 r1 r2 r q2) fun _ s3 ⟨H3,I3,q3⟩=>?_))));exact wpAny_release ⟨σ,H3,I3,q3⟩
def AY(te:TE)(g:TG):TS:=fun D σ H=>te σ H fun x H1=>g x σ H1 D.nx
theorem N7{tg e:Expr}{g:TG}(he:PE X e te)(hg:PG X tg g)(hs:swapsWithSole [tg] e pos.line X.env=pure false:=by rfl)(hw:swappedStores [tg] e X.env=pure none:=by rfl)
  (h1:(assignEach [tg] X.env).map (·.2)=[assign tg X.env]:=by rfl):PS X (.Assign [tg] e pos) (AY te g):=by
 intro Dz s σ H D I h;refine wpAny_Assign_stores (thn (he Dz s σ H _ I h) fun v s1 ⟨x,H1,I1,r1,q1⟩=>?_) hs hw;rw[h1];exact thn (hg Dz s1 σ H1 x v _ I1 r1 q1) fun _ s2 q=>q
theorem N8{pos':Pos}(hN:X.N.Nodup)(hi:X.N[i]?=some x)(hx:Loc X.env.scope x)(he:PE X e te)(hs:swapsWith e (some (.Name x pos')) pos.line X.env=pure false:=by rfl)(hf:X.fn x=true\/X.env.scope.names.lookup x=some .local:=by trivial) :
  PS X (.Assign [.Name x pos'] e pos) (AY te (lJ i)):=by
 intro Dz s σ H D I h;refine wpAny_Assign_Name (thn (he Dz s σ H _ I h) fun v s1 ⟨y,H1,I1,r1,q1⟩=>?_) hs;exact AV I1 hN hi hx r1 (fun s2 I2=>⟨_,H1,I2,q1⟩) hf
end
end
section
variable{X:Cx}{pos:Pos}
def GI(c:TT)(tb:TS):TS:=fun D σ H=>∃W:Nat->St->Hp->Prop,(∃m,W m σ H)/\∀m σ H,W m σ H ->
 c σ H fun b H1=>if b=true then ∃N:St->Hp->Prop,(∀σ' H',N σ' H'->∃m',m'<m/\W m' σ' H')/\tb { D with nx:=N,ct:=N,bk:=D.nx } σ H1 else D.nx σ H1
theorem GJ{c:Expr}{body:List Stmt}{tc:TT}{tb:TS}(hp:PassesOwn (model X.prog X.w) X.A X.env X.xe)(hc:PT X c tc)(hb:PSs X body tb):PS X (.While c body [] pos) (GI tc tb):=by
 intro Dz s σ H D I h;obtain⟨W,⟨m0,w0⟩,turn⟩:=h;refine wpAny_While (codeAny_whileLoop (fun n s'=>∃σ' H',Inv X Dz σ' H' s'/\W n σ' H') ?_ m0 ⟨σ,H,I,w0⟩);rintro n s1 ⟨σ1,H1,I1,w1⟩;refine wpAny_passesOwn hp (thn (hc Dz s1 σ1 H1 _ I1 (turn n σ1 H1 w1)) fun b s2 ⟨H2,I2,q2⟩=>?_);cases b with
 |true=>
  obtain⟨N,hN,q2⟩:=q2;rw[if_pos rfl];refine wpAny_passesOwn hp (thn (hb Dz s2 σ1 H2 _ I2 q2) fun f s3 q3=>?_);cases f with
  |next=>obtain⟨σ3,H3,I3,n3⟩:=q3;obtain⟨m',hm,w3⟩:=hN σ3 H3 n3;exact⟨m',hm,σ3,H3,I3,w3⟩
  |cont=>obtain⟨σ3,H3,I3,n3⟩:=q3;obtain⟨m',hm,w3⟩:=hN σ3 H3 n3;exact⟨m',hm,σ3,H3,I3,w3⟩
  |brk=>exact q3
  |ret v=>exact q3
 |false=>rw[if_neg VL];exact wpAny_execs_nil ⟨σ1,H2,I2,q2⟩
end
section
variable{P:Program}{tg:Expr}{w:World}{s:Shared}
structure It where
 go:Nat->Hp->Prop
 yld:Nat->Hp->V->Hp->Prop
 stop:Nat->Hp->Prop
def zX(X:Cx)(Dz:List (Addr×Obj))(H:Hp)(b:Addr):Prop:=
 H b=none/\b≠X.env.locals/\b∉X.fs/\(b∈X.ex\/X.s₀.heap.objs.size<=b)/\(∀x c,X.env.cells.lookup x=some c->c≠b)/\∀p∈X.pn++Dz,p.1≠b
theorem Inv.Kg{X:Cx}{Dz:List (Addr×Obj)}{σ:St}{H H':Hp}{b:Addr}(I:Inv X Dz σ H s)(hb:s.heap.objs.size<=b)(hn:H' b=none):zX X Dz H' b:=by
 refine⟨hn,Yy (Vr I.lt hb),I.T4 hb,.inr (Nat.le_trans I.sz hb),fun x c e z=>?_,fun p hp z=>?_⟩
 ·obtain⟨v,q⟩:=I.cell x c e;exact absurd (Vr q.lt (by rw[z];exact hb)) (W6 _)
 ·exact absurd (Vr (Vl (I.pin p hp).1) (by rw[z];exact hb)) (W6 _)
structure Turn(P:Program)(w:World)(K:Dk)(tg:Expr)(J:It)(fp:List Addr)(it:Addr)(tn:Nat->Heap->Prop):Prop where
 mem:it∈fp
 obj:∀i h,tn i h->∀b∈fp,∃o,h.get? b=some o/\∀v,o.data≠.cell v
 keep:∀i h h',tn i h->(∀b∈fp,∀o,h.get? b=some o->h'.get? b=some o)->tn i h'
 item:∀(X:Cx),X.prog=P->X.w=w->X.K=K->X.calm=true->∀(i:Nat) (Dz:List (Addr×Obj)) (s:Shared) (σ:St) (H:Hp) (E:Value->Shared->Prop),Inv X Dz σ H s->(∀b∈fp,zX X Dz H b)->tn i s.heap->J.go i H ->
  wpAny (model P w) X.A (pyNext (.ref it)) (fun r s1=>∃ u,r=some u ∧
   wpAny (model P w) X.A (letOwnedTupleGo tg (.ref it) u) (fun _ s2=>∃x H',Inv X Dz σ H' s2/\RelV x u/\J.yld i H x H'/\tn (i+1) s2.heap/\∀b∈fp,H' b=none) E s1) E s
 done:∀(X:Cx),X.prog=P->X.w=w->X.K=K->X.calm=true->∀(i:Nat) (Dz:List (Addr×Obj)) (s:Shared) (σ:St) (H:Hp) (E:Value->Shared->Prop),Inv X Dz σ H s->(∀b∈fp,zX X Dz H b)->tn i s.heap->J.stop i H ->
  wpAny (model P w) X.A (pyNext (.ref it)) (fun r s1=>r=none/\Inv X Dz σ H s1) E s
 self:∀(A:Around) (i:Nat) (s:Shared) (Q:Value->Shared->Prop) (E:Value->Shared->Prop),tn i s.heap->Q (.ref it) s->wpAny (model P w) A (pyIter (.ref it)) Q E s
noncomputable abbrev TI:=St->Hp->(It->Hp->Prop)->Prop
def PIE(X:Cx)(Dz:List (Addr×Obj))(σ:St)(tg:Expr)(R:It->Hp->Prop)(itv:Value)(s2:Shared):Prop:=
 ∃(it:Addr) (fp:List Addr) (tn:Nat->Heap->Prop) (J:It) (H':Hp),itv=.ref it/\Inv X Dz σ H' s2/\Turn X.prog X.w X.K tg J fp it tn/\tn 0 s2.heap/\(∀b∈fp,zX X Dz H' b)/\R J H'
def PI(X:Cx)(tg iter:Expr)(wi:TI):Prop:=
 ∀(Dz:List (Addr×Obj)) (s:Shared) (σ:St) (H:Hp) (R:It->Hp->Prop),Inv X Dz σ H s->wi σ H R ->
  wpAny (model X.prog X.w) X.A (eval iter X.env) (fun v s1=>wpAny (model X.prog X.w) X.A (pyIter v) (PIE X Dz σ tg R) X.xe s1) X.xe s
theorem GK{M:Model}{A:Around}{E:Value->Shared->Prop}{tg:Expr}{it:Addr}{u:Value}{o:Obj}{n:String}{vs:Array Value}{Q:Unit->Shared->Prop}(ho:s.heap.get? it=some o)(hc:o.cls=.type n)(hd:o.data=.fields vs)
  (hn:["enumerate","zip","dict_itemiterator","dict_reverseitemiterator","odict_iterator","itertools.zip_longest","itertools.pairwise"].contains n=false) (hQ:Q () s):wpAny M A (letOwnedTupleGo tg (.ref it) u) Q E s:=by
 unfold letOwnedTupleGo;cases tg<;>first
  |exact wpAny_pure hQ
  | (cases u<;>first
    |exact wpAny_pure hQ
    | (refine wpAny_bind (wpAny_load ho ?_)
       rw[hc,hd];show wpAny M A (if (["enumerate","zip","dict_itemiterator","dict_reverseitemiterator","odict_iterator","itertools.zip_longest","itertools.pairwise"].contains n&&vs[0]? == some (rawInt _))=true then _ else _) Q E s;rw[if_neg (by intro h;rw[hn,Bool.false_and]at h;cases h)];exact wpAny_pure hQ))
noncomputable def Itl(K:Dk)(a:Addr):It:=
 ⟨fun i H=>∃xs x,SqL K H a xs/\xs[i]?=some x,fun i H x H'=>H'=H/\∀xs,SqL K H a xs->xs[i]?=some x,fun i H=>∃xs,SqL K H a xs/\xs.length<=i⟩
noncomputable def Itt(K:Dk)(a:Addr):It:=
 ⟨fun i H=>∃xs x,SqT K H a xs/\xs[i]?=some x,fun i H x H'=>H'=H/\∀xs,SqT K H a xs->xs[i]?=some x,fun i H=>∃xs,SqT K H a xs/\xs.length<=i⟩
noncomputable def Itr(lo:Int)(n:Nat):It:=⟨fun i _=>i<n,fun i H x H'=>H'=H/\x=.int (lo+i),fun i _=>n<=i⟩
theorem Fg{K:Dk}(a it:Addr):Turn P w K tg (Itl K a) [it] it (fun i h=>h.IsListIter it a i) where
 mem:=by simp
 obj:=fun i h st b hb=>by
  have e:b=it:=by simpa using hb
  subst e;obtain⟨o,e,c,d⟩:=st;exact⟨o,e,fun v z=>by rw[d]at z;cases z⟩
 keep:=fun i h h' st k=>st.at fun o e=>k it (by simp) o e
 item:=by intro X hP hw hK hc i Dz s σ H E I hf st hg;subst hP hw hK;obtain⟨xs,x,hq,hx⟩:=hg;obtain⟨its,rv,p,hz⟩:=I.list hq;obtain⟨u,hu,ru⟩:=rv.get hx;obtain⟨f0,f1,f2,f3,f4,f5⟩:=hf it (by simp);refine wpAny_pyNext_list_item st p.isList (x:=u) (by simpa using hu) fun h' st' sb=>?_;have I1:Inv X Dz σ H { s with heap:=h' }:=I.turned (t':=s.toks) (fun b o hb e=>(sb.2 b hb).trans e) f0 f1 f3 f4 f5;obtain⟨o,e,c,d⟩:=id st';exact⟨u,rfl,GK (s:={ s with heap:=h' }) e c d (by decide) ⟨x,H,I1,ru,⟨rfl,fun ys hy=>by rw[I.AW hy hq];exact hx⟩,st',fun b hb=>(hf b hb).1⟩⟩
 done:=by intro X hP hw hK hc i Dz s σ H E I hf st hg;subst hP hw hK;obtain⟨xs,hq,hx⟩:=hg;obtain⟨its,rv,p,hz⟩:=I.list hq;obtain⟨f0,f1,f2,f3,f4,f5⟩:=hf it (by simp);have hl:=rv.length;exact wpAny_pyNext_list_end (I.ok.hd hc) st p.isList (by simp;lia) fun h' eb=>⟨rfl,I.turned (t':=s.toks) (fun b o hb e=>eb b o hb e) f0 f1 f3 f4 f5⟩
 self:=fun _ _ _ _ _ st h=>wpAny_pyIter_listiter st h
theorem CM{K:Dk}(a it:Addr):Turn P w K tg (Itt K a) [it] it (fun i h=>h.IsTupleIter it a i) where
 mem:=by simp
 obj:=fun i h st b hb=>by
  have e:b=it:=by simpa using hb
  subst e;obtain⟨o,e,c,d⟩:=st;exact⟨o,e,fun v z=>by rw[d]at z;cases z⟩
 keep:=fun i h h' st k=>st.at fun o e=>k it (by simp) o e
 item:=by intro X hP hw hK hc i Dz s σ H E I hf st hg;subst hP hw hK;obtain⟨xs,x,hq,hx⟩:=hg;obtain⟨its,rv,p,hz⟩:=I.tuple hq;obtain⟨u,hu,ru⟩:=rv.get hx;obtain⟨f0,f1,f2,f3,f4,f5⟩:=hf it (by simp);refine wpAny_pyNext_tuple_item st (show s.heap.IsTuple a its.toArray from p) (x:=u) (by simpa using hu) fun h' st' sb=>?_;have I1:Inv X Dz σ H { s with heap:=h' }:=I.turned (t':=s.toks) (fun b o hb e=>(sb.2 b hb).trans e) f0 f1 f3 f4 f5;obtain⟨o,e,c,d⟩:=id st';exact⟨u,rfl,GK (s:={ s with heap:=h' }) e c d (by decide) ⟨x,H,I1,ru,⟨rfl,fun ys hy=>by rw[I.Ff hy hq];exact hx⟩,st',fun b hb=>(hf b hb).1⟩⟩
 done:=by intro X hP hw hK hc i Dz s σ H E I hf st hg;subst hP hw hK;obtain⟨xs,hq,hx⟩:=hg;obtain⟨its,rv,p,hz⟩:=I.tuple hq;obtain⟨f0,f1,f2,f3,f4,f5⟩:=hf it (by simp);have hl:=rv.length;exact wpAny_pyNext_tuple_end (I.ok.hd hc) st (show s.heap.IsTuple a its.toArray from p) (by simp;lia) fun h' eb=>⟨rfl,I.turned (t':=s.toks) (fun b o hb e=>eb b o hb e) f0 f1 f3 f4 f5⟩
 self:=fun _ _ _ _ _ st h=>wpAny_pyIter_tupleiter st h
theorem CN{K:Dk}(it:Addr)(lo:Int)(n:Nat):Turn P w K tg (Itr lo n) [it] it (fun i h=>IsRangeIter h it (lo+(i:Nat)*1) ((n:Int)-(i:Nat)) 1) where
 mem:=by simp
 obj:=fun i h st b hb=>by
  have e:b=it:=by simpa using hb
  subst e;exact ⟨_,st,fun v z=>by have z':Data.fields _=Data.cell v:=z;cases z'⟩
 keep:=fun i h h' st k=>k it (by simp) _ st
 item:=by intro X hP hw hK hc i Dz s σ H E I hf st hg;subst hP hw hK;obtain⟨f0,f1,f2,f3,f4,f5⟩:=hf it (by simp);have W:=Walks.range (prog:=X.prog) (w:=X.w) (I.ok.hd hc) it lo 1 n;refine W.item i s _ _ hg st fun v h' tk hv st' kk=>?_;obtain⟨t,rfl⟩:=hv;have I1:Inv X Dz σ H { s with heap:=h',toks:=tk }:=I.turned (fun b o hb e=>kk b o (by simpa using hb) e) f0 f1 f3 f4 f5;refine⟨_,rfl,GK (s:={ s with heap:=h',toks:=tk }) (n := "range_iterator") st' rfl rfl (by decide) ⟨.int (lo+i),H,I1,⟨t,?_⟩,⟨rfl,rfl⟩,st',fun b hb=>(hf b hb).1⟩⟩;rw[Int.mul_one]
 done:=by intro X hP hw hK hc i Dz s σ H E I hf st hg;subst hP hw hK;obtain⟨f0,f1,f2,f3,f4,f5⟩:=hf it (by simp);exact wpAny_pyNext_range_end (I.ok.hd hc) st (by have:n<=i:=hg;lia) fun h' eb=>⟨rfl,I.turned (t':=s.toks) (fun b o hb e=>eb b o hb e) f0 f1 f3 f4 f5⟩
 self:=fun _ _ _ _ _ st h=>wpAny_pyIter_rangeiter st h
end
section
variable{X:Cx}{tg:Expr}
section
variable{Dz:List (Addr×Obj)}{fp:List Addr}{s:Shared}{H:Hp}{σ:St}{l:Expr}{h:Heap}{tl:TE}{ta:TA}
def AZ(K:Dk)(tl:TE):TI:=fun σ H R=>tl σ H fun x H1=>∃a,x=.ref a/\(∃xs,SqL K H1 a xs)/\R (Itl K a) H1
def GL(K:Dk)(tl:TE):TI:=fun σ H R=>tl σ H fun x H1=>∃a,x=.ref a/\(∃xs,SqT K H1 a xs)/\R (Itt K a) H1
theorem Ef(hl:PE X l tl):PI X tg l (AZ X.K tl):=by
 intro Dz s σ H R I h;refine thn (hl Dz s σ H _ I h) fun v s1 ⟨x,H1,I1,r1,q1⟩=>?_;obtain⟨a,e,⟨xs,hq⟩,q⟩:=q1;subst e;cases r1;obtain⟨its,rv,p,hz⟩:=I1.list hq;refine wpAny_pyIter_list p.isList ?_;refine⟨s1.heap.objs.size,[s1.heap.objs.size],_,_,H1,rfl,I1.kept (t':=s1.toks) fun b o e=>Vp _ e,Fg a _,⟨_,VY _ rfl,rfl,rfl⟩,fun b hb=>?_,q⟩;have e:b=s1.heap.objs.size:=by simpa using hb
 subst e;exact I1.Kg (Nat.le_refl _) (I1.hok.fresh (Nat.le_refl _))
theorem GN(hl:PE X l tl):PI X tg l (GL X.K tl):=by
 intro Dz s σ H R I h;refine thn (hl Dz s σ H _ I h) fun v s1 ⟨x,H1,I1,r1,q1⟩=>?_;obtain⟨a,e,⟨xs,hq⟩,q⟩:=q1;subst e;cases r1;obtain⟨its,rv,p,hz⟩:=I1.tuple hq;refine wpAny_pyIter_tuple (show s1.heap.IsTuple a its.toArray from p) ?_;refine⟨s1.heap.objs.size,[s1.heap.objs.size],_,_,H1,rfl,I1.kept (t':=s1.toks) fun b o e=>Vp _ e,CM a _,⟨_,VY _ rfl,rfl,rfl⟩,fun b hb=>?_,q⟩;have e:b=s1.heap.objs.size:=by simpa using hb
 subst e;exact I1.Kg (Nat.le_refl _) (I1.hok.fresh (Nat.le_refl _))
theorem A0{R:It->Hp->Prop}{E:Value->Shared->Prop}{lo hi:Int}{t u v:Tok}{tk:Nat}(I:Inv X Dz σ H s)(h1:-(2 ^ 62)<=lo)(h2:lo<2 ^ 62)(h3:-(2 ^ 62)<=hi)(h4:hi<2 ^ 62)
  (q:R (Itr lo (hi-lo).toNat) H):wpAny (model X.prog X.w) X.A (pyIter (.ref s.heap.objs.size)) (PIE X Dz σ tg R) E { s with heap:=s.heap.push { cls:=.type "range",data:=.fields #[.int lo t,.int hi u,.int 1 v] },toks:=tk }:=by
 refine wpAny_pyIter_range (IsRange.new ..) (small_one h1 h2 h3 h4) ?_;have I1:Inv X Dz σ H { s with heap:=s.heap.push { cls:=.type "range",data:=.fields #[.int lo t,.int hi u,.int 1 v] },toks:=tk }:=I.kept fun b o e=>Vp _ e;refine ⟨(s.heap.push { cls:=.type "range",data:=.fields #[.int lo t,.int hi u,.int 1 v] }).objs.size,[(s.heap.push { cls:=.type "range",data:=.fields #[.int lo t,.int hi u,.int 1 v] }).objs.size],_,_,H,rfl,
  I1.kept (t':=tk) fun b o e=>Vp _ e,CN _ lo (hi-lo).toNat,?_,fun b hb=>?_,q⟩
 ·have e1:lo+((0:Nat):Int)*1=lo:=by simp
  have e2:(((hi-lo).toNat:Nat):Int)-((0:Nat):Int)=Builtin.Range.rangeSize lo hi 1:=by rw[rangeSize_one];split<;>lia
  show IsRangeIter _ _ (lo+((0:Nat):Int)*1) ((((hi-lo).toNat:Nat):Int)-((0:Nat):Int)) 1;rw[e1,e2];exact VY _ rfl
 ·have e:b=(s.heap.push { cls:=.type "range",data:=.fields #[.int lo t,.int hi u,.int 1 v] }).objs.size:=by simpa using hb
  subst e;exact I1.Kg (Nat.le_refl _) (I1.hok.fresh (Nat.le_refl _))
def MN(ta:TA):TI:=fun σ H R=>ta σ H fun vs H1=>∃j:Int,vs=[.int j]/\-(2 ^ 62)<=j/\j<2 ^ 62/\R (Itr 0 j.toNat) H1
def MO(ta:TA):TI:=fun σ H R=>ta σ H fun vs H1=>∃i j:Int,vs=[.int i,.int j]/\(-(2 ^ 62)<=i/\i<2 ^ 62/\-(2 ^ 62)<=j/\j<2 ^ 62)/\R (Itr i (j-i).toNat) H1
theorem Fi{a:Expr}{p pos:Pos}(hg:Gl X "range")(hm:X.mg "range" = none)(ha:PA X [a] ta)(hs:starEach [a] X.env=[(false,eval a X.env)]:=by rfl):PI X tg (.Call (.Name "range" p) [a] [] pos) (MN ta):=by
 intro Dz s σ H R I h;refine Call_ (sU I hg hm boot_range (W0 (thn (ha pos Dz s σ H _ I h) fun us s1 ⟨vs,H1,I1,r1,q1⟩=>?_) hs rfl));obtain⟨j,e,q1,q2,q⟩:=q1;subst e;cases r1 with
 |cons r rr=>cases rr;obtain⟨t,rfl⟩:=r;exact call_range_1 (A0 I1 (by lia) (by lia) q1 q2 (by simpa using q))
theorem Fj{a b:Expr}{p pos:Pos}(hg:Gl X "range")(hm:X.mg "range" = none)(ha:PA X [a,b] ta)(hs:starEach [a,b] X.env=[(false,eval a X.env),(false,eval b X.env)]:=by rfl)(hs2:starEach [b] X.env=[(false,eval b X.env)]:=by rfl) :
  PI X tg (.Call (.Name "range" p) [a,b] [] pos) (MO ta):=by
 intro Dz s σ H R I h;refine Call_ (sU I hg hm boot_range (W0 (thn (ha pos Dz s σ H _ I h) fun us s1 ⟨vs,H1,I1,r1,q1⟩=>?_) (by rw[hs,hs2]) (by rw[hs2];rfl)));obtain⟨i,j,e,⟨q1,q2,q3,q4⟩,q⟩:=q1;subst e;cases r1 with
 |cons r rr=>
  cases rr with
  |cons r' rr=>cases rr;obtain⟨t,rfl⟩:=r;obtain⟨t',rfl⟩:=r';exact call_range_2 (A0 I1 q1 q2 q3 q4 q)
def N9(wi:TI)(g:TG)(tb:TS):TS:=fun D σ H=>wi σ H fun J H1=>∃W:Nat->Nat->St->Hp->Prop,(∃m,W 0 m σ H1)/\∀i m σ H,W i m σ H ->
 (J.stop i H/\D.nx σ H)\/(J.go i H/\∃N:St->Hp->Prop,(∀σ' H',N σ' H'->∃m',m'<m/\W (i+1) m' σ' H')/\∀x H',J.yld i H x H'->g x σ H' fun σ2 H2=>tb { D with nx:=N,ct:=N,bk:=D.nx } σ2 H2)
noncomputable def wL(fp:List Addr)(h:Heap):List (Addr×Obj):=fp.filterMap fun b=>(h.get? b).map fun o=>(b,o)
theorem kH{b:Addr}{o:Obj}(hb:b∈fp)(e:h.get? b=some o):(b,o)∈wL fp h:=XD.mpr ⟨b,hb,by rw[e];rfl⟩
theorem Fo{p:Addr×Obj}(hp:p∈wL fp h):p.1∈fp/\h.get? p.1=some p.2:=by
 obtain⟨b,hb,e⟩:=XD.mp hp;cases q:h.get? b with
 |none=>rw[q]at e;cases e
 |some o=>rw[q]at e;have e':(b,o)=p:=Option.some.inj e;subst e';exact⟨hb,q⟩
theorem Inv.pinned(I:Inv X Dz σ H s)(hf:∀b∈fp,zX X Dz H b)(ho:∀b∈fp,∃o,s.heap.get? b=some o/\∀v,o.data≠.cell v):Inv X (Dz++wL fp s.heap) σ H s:=
 I.Eb fun p hp=>(Vt.mp hp).elim (fun z=>I.pin p (VB _ z)) fun z=>by obtain⟨hb,e⟩:=Fo z;obtain⟨f0,f1,f2,_⟩:=hf p.1 hb;obtain⟨o,e',d⟩:=ho p.1 hb;rw[e]at e';cases e';exact⟨e,f0,f1,f2,d⟩
theorem Inv.qX{Dz pl:List (Addr×Obj)}(I:Inv X (Dz++pl) σ H s):Inv X Dz σ H s:=I.Eb fun p hp=>I.pin p (VB _ (VA _ hp))
theorem GO{iter:Expr}{body:List Stmt}{wi:TI}{g:TG}{tb:TS}{pos:Pos}(hp:PassesOwn (model X.prog X.w) X.A X.env X.xe)(hc:X.calm=true)(hi:PI X tg iter wi)(hg:PG X tg g)(hb:PSs X body tb)
  (hs:∀x,foldedSetIterable iter X.env x=pure x:=by intro _;rfl):PS X (.For tg iter body [] pos) (N9 wi g tb):=by
 intro Dz s σ H D I h;refine wpAny_For (thn (hi Dz s σ H _ I h) fun v s1 h1=>thn h1 fun itv s2 h2=>?_) hs;obtain⟨it,fp,tn,J,H2,e,I2,T,st2,f2,W,⟨m0,w0⟩,turn⟩:=h2;subst e;have stat:∀{H':Hp},(∀b∈fp,H' b=none)->∀b∈fp,zX X Dz H' b:=fun hn b hb=>⟨hn b hb,(f2 b hb).2⟩;refine codeAny_forLoop_any (fun n s'=>∃i σ' H',Inv X Dz σ' H' s'/\tn i s'.heap/\(∀b∈fp,H' b=none)/\W i n σ' H') ?_ m0 ⟨0,σ,H2,I2,st2,fun b hb=>(f2 b hb).1,w0⟩;rintro n s3 ⟨i,σ3,H3,I3,st3,fr3,w3⟩;rcases turn i n σ3 H3 w3 with⟨stop,qn⟩ | ⟨go,N,hN,step⟩
 ·refine wpAny_passesOwn hp (thn (T.done X rfl rfl rfl hc i Dz s3 σ3 H3 X.xe I3 (stat fr3) st3 stop) fun r s4 ⟨hr,I4⟩=>?_);subst hr;exact wpAny_execs_nil ⟨σ3,H3,I4,qn⟩
 ·refine wpAny_passesOwn hp (thn (T.item X rfl rfl rfl hc i Dz s3 σ3 H3 X.xe I3 (stat fr3) st3 go) fun r s4 ⟨u,hr,h4⟩=>?_);subst hr;refine wpAny_passesOwn hp (thn h4 fun _ s5 ⟨x,H5,I5,r5,y5,st5,fr5⟩=>?_);have I5':=I5.pinned (stat fr5) (T.obj _ _ st5);refine wpAny_passesOwn hp (thn (hg _ s5 σ3 H5 x u _ I5' r5 (step x H5 y5)) fun _ s6 ⟨σ6,H6,I6,q6⟩=>?_);refine wpAny_passesOwn hp (thn (hb _ s6 σ6 H6 _ I6 q6) fun f s7 q7=>?_);have again:∀{σ7:St} {H7:Hp},Inv X (Dz++wL fp s5.heap) σ7 H7 s7->N σ7 H7->∃m,m<n/\∃i σ' H',Inv X Dz σ' H' s7/\tn i s7.heap/\(∀b∈fp,H' b=none)/\W i m σ' H':=fun {σ7 H7} I7 n7=>by
   obtain⟨m',hm,w7⟩:=hN σ7 H7 n7;refine⟨m',hm,i+1,σ7,H7,I7.qX,T.keep _ _ _ st5 fun b hb o e=>(I7.pin (b,o) (VB _ (VB _ (kH hb e)))).1,fun b hb=>?_,w7⟩;obtain⟨o,e,d⟩:=T.obj _ _ st5 b hb;exact(I7.pin (b,o) (VB _ (VB _ (kH hb e)))).2.1
  cases f with
  |next=>obtain⟨σ7,H7,I7,n7⟩:=q7;exact again I7 n7
  |cont=>obtain⟨σ7,H7,I7,n7⟩:=q7;exact again I7 n7
  |brk=>obtain⟨σ7,H7,I7,q7⟩:=q7;exact⟨σ7,H7,I7.qX,q7⟩
  |ret v=>obtain⟨x7,σ7,H7,I7,r7,q7⟩:=q7;exact⟨x7,σ7,H7,I7.qX,r7,q7⟩
end
end
noncomputable abbrev R2:=V->V->Hp->VK->Prop
def OpR(X:Cx)(f:Value->Value->Sem Value)(r:R2):Prop:=
 ∀(Dz:List (Addr×Obj)) (s:Shared) (σ:St) (H:Hp) (x y:V) (v u:Value) (Q:VK),Inv X Dz σ H s->RelV x v->RelV y u->r x y H Q ->
  wpAny (model X.prog X.w) X.A (f v u) (EP X Dz σ Q) X.xe s
def UnR(X:Cx)(f:Value->Sem Value)(r:V->Hp->VK->Prop):Prop:=
 ∀(Dz:List (Addr×Obj)) (s:Shared) (σ:St) (H:Hp) (x:V) (v:Value) (Q:VK),Inv X Dz σ H s->RelV x v->r x H Q ->
  wpAny (model X.prog X.w) X.A (f v) (EP X Dz σ Q) X.xe s
def fy(X:Cx)(f:Value)(r:List V->Hp->VK->Prop):Prop:=
 ∀(Dz:List (Addr×Obj)) (s:Shared) (σ:St) (H:Hp) (xs:List V) (us:List Value) (Q:VK),Inv X Dz σ H s->Vals xs us->r xs H Q ->
  wpAny (model X.prog X.w) X.A (call f us) (EP X Dz σ Q) X.xe s
def T7(X:Cx)(r:V->Hp->(Bool->Hp->Prop)->Prop):Prop:=
 ∀(Dz:List (Addr×Obj)) (s:Shared) (σ:St) (H:Hp) (x:V) (v:Value) (Q:Bool->Hp->Prop),Inv X Dz σ H s->RelV x v->r x H Q ->
  wpAny (model X.prog X.w) X.A (truthy v) (TP X Dz σ Q) X.xe s
def tOp(r:R2)(ta tb:TE):TE:=fun σ H Q=>ta σ H fun x H1=>tb σ H1 fun y H2=>r x y H2 Q
def tUn(r:V->Hp->VK->Prop)(ta:TE):TE:=fun σ H Q=>ta σ H fun x H1=>r x H1 Q
def rI(C:Int->Int->Prop)(g:Int->Int->V):R2:=fun x y H Q=>∃i j,x=.int i/\y=.int j/\C i j/\Q (g i j) H
def rI0(g:Int->Int->V):R2:=fun x y H Q=>∃i j,x=.int i/\y=.int j/\Q (g i j) H
def rU(g:Int->V):V->Hp->VK->Prop:=fun x H Q=>∃i,x=.int i/\Q (g i) H
section
variable{X:Cx}{a b c:Expr}{ta tb tc:TE}{pos:Pos}
theorem N_(ha:PE X a ta)(hb:PE X b tb){Dz:List (Addr×Obj)}{s:Shared}{σ:St}{H:Hp}{R:V->V->Hp->Prop}(I:Inv X Dz σ H s)
  (h:ta σ H fun x H1=>tb σ H1 fun y H2=>R x y H2) {Q:Value->Shared->Prop} {f:Value->Value->Sem Value}
  (hf:∀v u s2 x y H2,Inv X Dz σ H2 s2->RelV x v->RelV y u->R x y H2->wpAny (model X.prog X.w) X.A (f v u) Q X.xe s2) :
  wpAny (model X.prog X.w) X.A (eval a X.env) (fun v s₁=>wpAny (model X.prog X.w) X.A (eval b X.env) (fun u s₂=>wpAny (model X.prog X.w) X.A (f v u) Q X.xe s₂) X.xe s₁) X.xe s:=by
 refine thn (ha Dz s σ H _ I h) fun v s1 ⟨x,H1,I1,r1,q1⟩=>?_;refine thn (hb Dz s1 σ H1 _ I1 q1) fun u s2 ⟨y,H2,I2,r2,q2⟩=>?_;exact hf v u s2 x y H2 I2 r1 r2 q2
theorem Q4{op:Operator}{r:R2}(ho:OpR X (binaryOp op) r)(ha:PE X a ta)(hb:PE X b tb):PE X (.BinOp a op b pos) (tOp r ta tb):=by intro Dz s σ H Q I h;exact wpAny_BinOp (N_ ha hb I h fun v u s2 x y H2 I2 rx ry q=>ho Dz s2 σ H2 x y v u Q I2 rx ry q)
theorem Q5{op:UnaryOp}{r:V->Hp->VK->Prop}(ho:UnR X (unaryOp op) r)(ha:PE X a ta):PE X (.UnaryOp op a pos) (tUn r ta):=by intro Dz s σ H Q I h;exact UnaryOp_ (thn (ha Dz s σ H _ I h) fun v s1 ⟨x,H1,I1,r1,q1⟩=>ho Dz s1 σ H1 x v Q I1 r1 q1)
theorem opI{f:Value->Value->Sem Value}{C:Int->Int->Prop}{g:Int->Int->Int}
  (rule:∀(i j:Int) (t u:Tok) (s:Shared) (Q:Value->Shared->Prop) (E:Value->Shared->Prop),C i j->Q (.int (g i j) s.toks) { s with toks:=s.toks+1 }->wpAny (model X.prog X.w) X.A (f (.int i t) (.int j u)) Q E s) :
  OpR X f (rI C fun i j=>.int (g i j)):=by
 intro Dz s σ H x y v u Q I rx ry h;obtain⟨i,j,rfl,rfl,hc,q⟩:=h;obtain⟨t,rfl⟩:=rx;obtain⟨t',rfl⟩:=ry;exact rule i j t t' s _ _ hc ⟨.int (g i j),H,I.tok _,⟨_,rfl⟩,q⟩
theorem Q6{f:Value->Value->Sem Value}{g:Int->Int->Int}
  (rule:∀(i j:Int) (t u:Tok) (s:Shared) (Q:Value->Shared->Prop) (E:Value->Shared->Prop),Q (.int (g i j) s.toks) { s with toks:=s.toks+1 }->wpAny (model X.prog X.w) X.A (f (.int i t) (.int j u)) Q E s) :
  OpR X f (rI0 fun i j=>.int (g i j)):=by
 intro Dz s σ H x y v u Q I rx ry h;obtain⟨i,j,rfl,rfl,q⟩:=h;obtain⟨t,rfl⟩:=rx;obtain⟨t',rfl⟩:=ry;exact rule i j t t' s _ _ ⟨.int (g i j),H,I.tok _,⟨_,rfl⟩,q⟩
theorem Kh{f:Value->Value->Sem Value}{g:Int->Int->Bool}
  (rule:∀(i j:Int) (t u:Tok) (s:Shared) (Q:Value->Shared->Prop) (E:Value->Shared->Prop),Q (.bool (g i j)) s->wpAny (model X.prog X.w) X.A (f (.int i t) (.int j u)) Q E s) :
  OpR X f (rI0 fun i j=>.bl (g i j)):=by
 intro Dz s σ H x y v u Q I rx ry h;obtain⟨i,j,rfl,rfl,q⟩:=h;obtain⟨t,rfl⟩:=rx;obtain⟨t',rfl⟩:=ry;exact rule i j t t' s _ _ ⟨.bl (g i j),H,I,rfl,q⟩
def Q7(i j:Int):Prop:=0<=j/\j<=1000000/\i.natAbs<2 ^ 64
def GP(i j:Int):Prop:=(-(2 ^ 64)<i/\i<2 ^ 64)\/(-(2 ^ 64)<j/\j<2 ^ 64)
theorem GP.ok{i j:Int}(h:GP i j):IntMulOk i j:=by
 rcases h with⟨h1,h2⟩ | ⟨h1,h2⟩
 ·exact .of_left (intBits_le_64 h1 h2)
 ·exact .of_right (intBits_le_64 h1 h2)
theorem Oa:OpR X (binaryOp .Add) (rI0 fun i j=>.int (i+j)):=Q6 fun _ _ _ _ _ _ _ q=>add_int q
theorem Ob:OpR X (binaryOp .Sub) (rI0 fun i j=>.int (i-j)):=Q6 fun _ _ _ _ _ _ _ q=>sub_int q
theorem Oc:OpR X (binaryOp .Mult) (rI GP fun i j=>.int (i*j)):=opI fun _ _ _ _ _ _ _ hc q=>mul_int q hc.ok
theorem Od:OpR X (binaryOp .Mod) (rI (fun _ j=>0<j) fun i j=>.int (i % j)):=opI fun i j _ _ _ _ _ hc q=>by have h1:(0:Int)<j:=hc;exact mod_int' (by lia) (by rw[Int.fmod_eq_emod_of_nonneg i (by lia)];exact q)
theorem Oe:OpR X (binaryOp .Pow) (rI Q7 fun i j=>.int (i ^ j.toNat)):=opI fun _ _ _ _ _ _ _ hc q=>pow_int_small hc.1 hc.2.1 hc.2.2 q
theorem unI{f:Value->Sem Value}{g:Int->Int}
  (rule:∀(i:Int) (t:Tok) (s:Shared) (Q:Value->Shared->Prop) (E:Value->Shared->Prop),Q (.int (g i) s.toks) { s with toks:=s.toks+1 }->wpAny (model X.prog X.w) X.A (f (.int i t)) Q E s) :
  UnR X f (rU fun i=>.int (g i)):=by
 intro Dz s σ H x v Q I rx h;obtain⟨i,rfl,q⟩:=h;obtain⟨t,rfl⟩:=rx;exact rule i t s _ _ ⟨.int (g i),H,I.tok _,⟨_,rfl⟩,q⟩
theorem Of:UnR X (unaryOp .USub) (rU fun i=>.int (-i)):=unI fun _ _ _ _ _ q=>neg_int q
end
section
variable{X:Cx}{a b c:Expr}{ta tb tc:TE}{pos:Pos}
theorem Q8:OpR X (compareOp .Lt) (rI0 fun i j=>.bl (decide (i<j))):=Kh fun _ _ _ _ _ _ _ q=>lt_int q
theorem MP:OpR X (compareOp .LtE) (rI0 fun i j=>.bl (decide (i<=j))):=Kh fun _ _ _ _ _ _ _ q=>le_int q
theorem Q9:OpR X (compareOp .Gt) (rI0 fun i j=>.bl (decide (j<i))):=Kh fun _ _ _ _ _ _ _ q=>gt_int q
theorem Q_:OpR X (compareOp .GtE) (rI0 fun i j=>.bl (decide (j<=i))):=Kh fun _ _ _ _ _ _ _ q=>ge_int q
theorem OpR.or{f:Value->Value->Sem Value}{r r':R2}(h:OpR X f r)(h':OpR X f r'):OpR X f (fun x y H Q=>r x y H Q\/r' x y H Q):=by
 intro Dz s σ H x y v u Q I rx ry q;rcases q with q | q
 ·exact h Dz s σ H x y v u Q I rx ry q
 ·exact h' Dz s σ H x y v u Q I rx ry q
theorem lW(b:Expr){op:CmpOp}(h:op≠.In:=by decide)(h2:op≠.NotIn:=by decide):behindInMarks op b=false:=by
 have e1:(op == CmpOp.In)=false:=by cases op<;>first | rfl | exact absurd rfl h
 have e2:(op == CmpOp.NotIn)=false:=by cases op<;>first | rfl | exact absurd rfl h2
 cases b<;>simp[behindInMarks,e1,e2]
theorem Kl{op:CmpOp}{r:R2}(ho:OpR X (compareOp op) r)(ha:PE X a ta)(hb:PE X b tb)(hm:behindInMarks op b=false):PE X (.Compare a [op] [b] pos) (tOp r ta tb):=by intro Dz s σ H Q I h;exact wpAny_Compare1 (N_ ha hb I h fun v u s2 x y H2 I2 rx ry q=>ho Dz s2 σ H2 x y v u Q I2 rx ry q) hm
def MQ(t:TE):TT:=fun σ H Q=>t σ H fun x H'=>∃k,x=.bl k/\Q k H'
theorem Km{op:CmpOp}{r:R2}(ho:OpR X (compareOp op) r)(ha:PE X a ta)(hb:PE X b tb)(hm:behindInMarks op b=false):PT X (.Compare a [op] [b] pos) (MQ (tOp r ta tb)):=by
 intro Dz s σ H Q I h;refine wpAny_isTrue_Compare1 (thn (ha Dz s σ H _ I h) fun v s1 ⟨x,H1,I1,r1,q1⟩=>thn (hb Dz s1 σ H1 _ I1 q1) fun u s2 ⟨y,H2,I2,r2,q2⟩=>thn (ho Dz s2 σ H2 x y v u _ I2 r1 r2 q2) fun c s3 ⟨z,H3,I3,r3,k,e,q3⟩=>?_) hm
 subst e;cases r3;exact wpAny_truthy_bool ⟨H3,I3,q3⟩
def GQ(r r':R2)(ta tb tc:TE):TE:=fun σ H Q=>ta σ H fun x H1=>tb σ H1 fun y H2=>r x y H2 fun z H3=>∃k,z=.bl k /\
 (if k=true then tc σ H3 fun w' H4=>r' y w' H4 Q else Q (.bl false) H3)
theorem GR{op op':CmpOp}{r r':R2}(ho:OpR X (compareOp op) r)(ho':OpR X (compareOp op') r')(ha:PE X a ta)(hb:PE X b tb)(hc:PE X c tc)
  (hm:lastMarks [op,op'] [b,c]=false:=by with_unfolding_all rfl):PE X (.Compare a [op,op'] [b,c] pos) (GQ r r' ta tb tc):=by
 intro Dz s σ H Q I h;refine Compare_chain (thn (ha Dz s σ H _ I h) fun v s1 ⟨x,H1,I1,r1,q1⟩=>chain_link (thn (hb Dz s1 σ H1 _ I1 q1) fun u s2 ⟨y,H2,I2,r2,q2⟩=>thn (ho Dz s2 σ H2 x y v u _ I2 r1 r2 q2) fun d s3 ⟨z,H3,I3,r3,k,e,q3⟩=>?_)) hm
 subst e;cases r3;refine wpAny_truthy_bool ?_;cases k with
 |false=>exact ite_ff ⟨.bl false,H3,I3,rfl,q3⟩
 |true=>exact ite_tt (chain_last (thn (hc Dz s3 σ H3 _ I3 q3) fun w' s4 ⟨z',H4,I4,r4,q4⟩=>ho' Dz s4 σ H4 y z' u w' Q I4 r2 r4 q4))
def Og(K:Dk)(x:V)(H:Hp)(k:Bool):Prop:=
 match x with
 |.non=>k=false
 |.bl b=>k=b
 |.int i=>k=(i != 0)
 |.str y=>y.length<=sizeLine/\k=((y.length:Int) != 0)
 |.byt y=>y.size<=sizeLine/\k=((y.size:Int) != 0)
 |.ref p=>(∃xs,SqL K H p xs/\k=!xs.isEmpty)\/(∃xs,SqT K H p xs/\k=!xs.isEmpty)\/∃kvs,H p=some (.dK kvs)/\k=!kvs.isEmpty
 |_=>False
theorem CO{κ:Type}{kvs:List (κ×V)}{vs:List (κ×Value)}(r:KV kvs vs):(!vs.isEmpty)=!kvs.isEmpty:=by cases r<;>rfl
theorem wM{xs:List V}{its:List Value}(r:Vals xs its):(!its.toArray.isEmpty)=!xs.isEmpty:=by cases r<;>simp
theorem wN:(sizeLine:Nat)<2 ^ 63:=by rw[sizeLine_eq];decide
theorem Oh:T7 X (fun x H Q=>∃k,Og X.K x H k/\Q k H):=by
 intro Dz s σ H x v Q I rx h;obtain⟨k,e,q⟩:=h;have hl:=wN;have hs:sizeLine=16777216:=sizeLine_eq;cases x with
 |non=>cases rx;have e':k=false:=e;subst e';exact truthy_none ⟨H,I,q⟩
 |bl b=>cases rx;have e':k=b:=e;subst e';exact wpAny_truthy_bool ⟨H,I,q⟩
 |int i=>obtain⟨t,rfl⟩:=rx;have e':k=(i != 0):=e;subst e';exact PySem.P.truthy_int ⟨H,I,q⟩
 |str y=>obtain⟨t,rfl⟩:=rx;obtain⟨hy,e'⟩:y.length<=sizeLine/\k=((y.length:Int) != 0):=e;subst e';exact PySem.P.truthy_str (by lia) ⟨H,I.tok _,q⟩
 |byt y=>obtain⟨t,rfl⟩:=rx;obtain⟨hy,e'⟩:y.size<=sizeLine/\k=((y.size:Int) != 0):=e;subst e';exact PySem.W.truthy_bytes (by lia) ⟨H,I.tok _,q⟩
 |ref p=>
  cases rx;have e':(∃xs,SqL X.K H p xs/\k=!xs.isEmpty)\/(∃xs,SqT X.K H p xs/\k=!xs.isEmpty)\/∃kvs,H p=some (.dK kvs)/\k=!kvs.isEmpty:=e;rcases e' with⟨xs,hx,e'⟩ | ⟨xs,hx,e'⟩ | ⟨kvs,hx,e'⟩
  ·subst e';obtain⟨its,r,pl,hz⟩:=I.list hx;have IY:=r.length;exact wpAny_truthy_list pl.isList (by simp only[Vo];lia) ⟨H,I.tok _,by rw[wM r];exact q⟩
  ·subst e';obtain⟨its,r,pl,hz⟩:=I.tuple hx;have IY:=r.length;exact truthy_tuple pl (by simp only[Vo];lia) ⟨H,I.tok _,by rw[wM r];exact q⟩
  ·subst e';obtain⟨hz,hS,vs,r,m⟩:kvs.length<=sizeLine/\(p == sysModules)=false/\∃vs,KV kvs vs/\s.heap.DictOf (aV X.prog X.w) p vs:=I.hok p _ hx;have IY:kvs.length=vs.length:=Paired.length r;exact wpAny_truthy_dict hS m (by lia) ⟨H,I.tok _,by rw[CO r];exact q⟩
 |_=>exact(show False from e).elim
theorem GS(ha:PE X a ta)(he:∀whole,isTrue a X.env whole=(do let v <- whole;standAt a.pos;holding [v] (truthy v))) :
  PT X a (fun σ H Q=>ta σ H fun x H'=>∃k,Og X.K x H' k/\Q k H'):=by
 intro Dz s σ H Q I h;exact isTrue_plain (thn (ha Dz s σ H _ I h) fun v s1 ⟨x,H1,I1,r1,q1⟩=>Oh Dz s1 σ H1 x v Q I1 r1 q1) (he _)
theorem vals1{x:V}{us:List Value}(r:Vals [x] us):∃u,us=[u]/\RelV x u:=by
 cases r with
 |cons r1 r2=>cases r2;exact⟨_,rfl,r1⟩
theorem vals2{x y:V}{us:List Value}(r:Vals [x,y] us):∃u w',us=[u,w']/\RelV x u/\RelV y w':=by
 cases r with
 |cons r1 r2=>
  cases r2 with
  |cons r3 r4=>cases r4;exact⟨_,_,rfl,r1,r3⟩
theorem Fp(hc:X.calm=true):fy X (.builtin "max") (fun xs H Q=>∃i j,xs=[.int i,.int j]/\Q (.int (if j>i then j else i)) H):=by
 intro Dz s σ H xs us Q I r h;obtain⟨i,j,rfl,q⟩:=h;obtain⟨u,w',rfl,⟨t,rfl⟩,⟨t',rfl⟩⟩:=vals2 r;refine max_two_ints (I.ok.hd hc) fun h' tk k=>⟨_,H,I.kept k,?_,q⟩;by_cases hj:j>i
 ·rw[if_pos hj,if_pos hj];exact⟨_,rfl⟩
 ·rw[if_neg hj,if_neg hj];exact⟨_,rfl⟩
theorem Fq(hc:X.calm=true):fy X (.builtin "min") (fun xs H Q=>∃i j,xs=[.int i,.int j]/\Q (.int (if j<i then j else i)) H):=by
 intro Dz s σ H xs us Q I r h;obtain⟨i,j,rfl,q⟩:=h;obtain⟨u,w',rfl,⟨t,rfl⟩,⟨t',rfl⟩⟩:=vals2 r;refine min_two_ints (I.ok.hd hc) fun h' tk k=>⟨_,H,I.kept k,?_,q⟩;by_cases hj:j<i
 ·rw[if_pos hj,if_pos hj];exact⟨_,rfl⟩
 ·rw[if_neg hj,if_neg hj];exact⟨_,rfl⟩
end
section
variable{mA:Str->Option Value}{h:Heap}
structure Oi(h:Heap)(x dx C:Addr)(mA:Str->Option Value):Prop where
 obj:h.get? x=some (YD C dx)
 ns:h.Ns1 dx mA
 ne:dx≠x
theorem Ft{dx:Addr}(n:h.Ns1 dx mA):∃od,h.get? dx=some od/\∀name,YJ name od=some (mA name):=by
 obtain⟨o,es,ep,ho,hd,hk,_,hm⟩:=n;refine⟨o,ho,fun name=>?_⟩;have e:=hm name;unfold nsFind findBy at e;rw[<- X8]at e;unfold YJ;rw[hd];dsimp only;split
 ·rename_i y q;rw[q]at e;exact congrArg some e
 ·rename_i q;rw[q]at e;have a:es.toList.any (·.refKey)=false:=by
   rw[List.any_eq_false];intro y hy;obtain⟨z,t,hkey⟩:=hk y (Array.mem_toList_iff.mp hy);simp[DictEntry.refKey,hkey]
  have a':¬es.toList.any (·.refKey)=true:=by rw[a];exact VL
  rw[if_neg a'];exact congrArg some e
theorem Oi.look{x dx C:Addr}(I:Oi h x dx C mA):∃od,PySem.W.InstAt h x (YD C dx) C (some od)/\∀name,YJ name od=some (mA name):=
 let ⟨od,ho,hl⟩:=Ft I.ns
 ⟨od,⟨I.obj,rfl,rfl,ho⟩,hl⟩
theorem qU.some_of{v:V}{o:Option Value}(r:qU (some v) o):∃u,o=some u/\RelV v u:=by
 cases o with
 |none=>exact(show False from r).elim
 |some u=>exact⟨u,rfl,r⟩
end
section
variable{P:Program}{w:World}{H H':Hp}{h h':Heap}{a C dx:Addr}{fs fs':List (Str×V)}
theorem Kn(hok:HOk P w H h)(e:H a=some (.ins C dx fs)):∃mA,Oi h a dx C mA/\(∀f,qU (fs.lookup f) (mA f))/\PySem.Within mA (fs.map (·.1))/\fs.length<=1000/\H dx=some (.own a):=by
 obtain⟨d,z,ne,ob,mA,n,r,q⟩:=(show bC P w H h a (.ins C dx fs) from hok a _ e)
 exact⟨mA,⟨ob,n,ne⟩,r,q,z,d⟩
end
structure Cls(K:Dk)(C:Addr):Prop where
 pg:PySem.W.plainGet K C Str.empty=true
 hd:Yo K C=true
 po:PySem.W.plainOver K C=true
 sa:Vj K (.ref C) "__setattr__" = some (some (.builtin "object.__setattr__"))
theorem Cls.get{K:Dk}{C:Addr}(c:Cls K C)(f:Str):PySem.W.plainGet K C f=true:=c.pg
section
variable{X:Cx}{Dz:List (Addr×Obj)}{σ:St}{H:Hp}{s:Shared}{A:Around}{E:Value->Shared->Prop}{Q:Value->Shared->Prop}{c:Value}{b:Bool}
inductive qY(K:Dk)(H:Hp):V->Value->Prop where
 |non:qY K H .non (.type "NoneType")
 |bl (x:Bool):qY K H (.bl x) (.type "bool")
 |int (i:Int):qY K H (.int i) (.type "int")
 |str (x:Str):qY K H (.str x) (.type "str")
 |flt (x:UInt64):qY K H (.flt x) (.type "float")
 |lst {a:Addr} {xs:List V} (e:H a=some (.lst xs)):qY K H (.ref a) (.type "list")
 |frz {a:Addr} {o:Obj} {xs:List V} (e:H a=some (.frz o (.lst xs))):qY K H (.ref a) (.type "list")
 |tup {a:Addr} {xs:List V} (e:H a=some (.tup xs)):qY K H (.ref a) (.type "tuple")
 |dK {a:Addr} {kvs:List (Key×V)} (e:H a=some (.dK kvs)):qY K H (.ref a) (.type "dict")
 |dT {a:Addr} {kvs:List (List Key×V)} {ts:List Addr} (e:H a=some (.dT kvs ts)):qY K H (.ref a) (.type "dict")
 |ins {a C dx:Addr} {fs:List (Str×V)} (e:H a=some (.ins C dx fs)) (cl:Cls K C) (ha:Vj K (.ref C) "__class__" = some (some (.builtin "object.__class__")))
   (hn:Yp K (.builtin "object.__class__") "__get__" = some (some (.builtin "getset_descriptor.__get__"))) (htk:PySem.W.takesIn K (.builtin "object.__class__")=some true)
   (hm:VG K C (.type "object")=some true):qY K H (.ref a) (.ref C)
theorem Fv{x:V}{u t:Value}(I:Inv X Dz σ H s)(rx:RelV x u)(ty:qY X.K H x t)(e:eg X.K t c=some b)(h:∀tk,Q (.bool b) { s with toks:=tk }) :
  wpAny (model X.prog X.w) A (call (.builtin "isinstance") [u,c]) Q E s:=by
 cases ty with
 |non=>cases (show u=Value.none from rx);exact Wf PySem.W.kitx_none I.kIn WU e (fun z=>nomatch z) h
 |bl y=>cases (show u=YT y from rx);exact Wf PySem.W.kitx_bool I.kIn WU e (fun z=>nomatch z) h
 |int i=>obtain⟨t,q⟩:=(show ∃t,u=XW i t from rx);cases q;exact Wf PySem.W.kitx_int I.kIn WU e (fun z=>nomatch z) h
 |str y=>obtain⟨t,q⟩:=(show ∃t,u=XC y t from rx);cases q;exact Wf PySem.W.kitx_str I.kIn WU e (fun z=>nomatch z) h
 |flt y=>obtain⟨t,q⟩:=(show ∃t,u=Value.float y t from rx);cases q;exact Wf PySem.W.kitx_float I.kIn WU e (fun z=>nomatch z) h
 |@lst a xs ea=>
  cases (show u=VF a from rx);obtain⟨_,_,n,_,h1⟩:=(show bC X.prog X.w H s.heap a (.lst xs) from I.hok a _ ea)
  exact Wf PySem.W.kitx_list I.kIn ⟨_,h1,rfl⟩ e (fun z=>nomatch z) h
 |@frz a ob xs ea=>
  cases (show u=VF a from rx);obtain⟨_,_,_,n,_,h1⟩:=(show bC X.prog X.w H s.heap a (.frz ob (.lst xs)) from I.hok a _ ea)
  exact Wf PySem.W.kitx_list I.kIn ⟨_,h1,rfl⟩ e (fun z=>nomatch z) h
 |@tup a xs ea=>
  cases (show u=VF a from rx);obtain⟨_,_,_,p⟩:=(show bC X.prog X.w H s.heap a (.tup xs) from I.hok a _ ea)
  obtain⟨o,h1,h2,_⟩:=p;exact Wf PySem.W.kitx_tuple I.kIn ⟨o,h1,h2⟩ e (fun z=>nomatch z) h
 |@dK a kvs ea=>
  cases (show u=VF a from rx);obtain⟨_,_,vs,_,p⟩:=(show bC X.prog X.w H s.heap a (.dK kvs) from I.hok a _ ea)
  obtain⟨o,es,ep,h1,h2,_⟩:=p;exact Wf PySem.W.kitx_dict I.kIn ⟨o,h1,h2.1⟩ e (fun z=>nomatch z) h
 |@dT a kvs ts ea=>
  cases (show u=VF a from rx);obtain⟨_,_,xs,_,o,es,ep,h1,h2,_⟩:=(show bC X.prog X.w H s.heap a (.dT kvs ts) from I.hok a _ ea)
  exact Wf PySem.W.kitx_dict I.kIn ⟨o,h1,h2.1⟩ e (fun z=>nomatch z) h
 |@ins a C dx fs ea cl ha hn htk hm=>cases (show u=VF a from rx);obtain⟨mA,O,_⟩:=Kn I.hok ea;obtain⟨od,J,_⟩:=O.look;exact Wf (PySem.W.kitx_own (cl.get _) cl.hd ha hn htk hm) I.kIn J e (fun z=>nomatch z) h
end
section
variable{A:Around}{k:Nat}
structure bP(k:Nat)(A:Around):Prop where
 hd:A.handled=none
 dp:A.depth+3*k+5<recursionLimit
 un:A.units+16*k+200<cLine
 gd:A.guards=some []
theorem bP.mono{j k:Nat}(r:bP k A)(h:j<=k):bP j A:=⟨r.hd,by have:=r.dp;lia,by have:=r.un;lia,r.gd⟩
theorem bP.deeper(r:bP (k+1) A)(env:Env):bP k (A.deeper env):=
 ⟨r.hd,by have:=r.dp;show A.depth+1+3*k+5<_;lia,by have:=r.un;show A.units+3+16*k+200<_;lia,r.gd⟩
theorem bP.depth(r:bP k A):A.depth<recursionLimit:=by have:=r.dp;lia
theorem bP.units(r:bP k A):A.units+64<cLine:=by have:=r.un;lia
def CQ:TA:=fun _ H Q=>Q [] H
def yX(ta:TE)(tr:TA):TA:=fun σ H Q=>ta σ H fun x H1=>tr σ H1 fun xs H2=>Q (x::xs) H2
end
section
variable{X:Cx}{e:Expr}{es:List Expr}{te:TE}{t:TA}{pos:Pos}
theorem sW:PA X [] CQ:=fun _ _ _ _ H Q I h=>XM ⟨[],H,I,.nil,h⟩
theorem kI(ha:PE X e te)(hr:PA X es t)(hs:starEach (e::es) X.env=(false,eval e X.env)::starEach es X.env:=by rfl):PA X (e::es) (yX te t):=by intro pos Dz s σ H Q I h;rw[hs];show wpAny _ _ (spliced ((false,eval e X.env)::backTo pos (starEach es X.env))) _ _ s;refine Yb (thn (ha Dz s σ H _ I h) fun u s1 ⟨x,H1,I1,r1,q1⟩=>?_);exact thn (hr pos Dz s1 σ H1 _ I1 q1) fun us s2 ⟨xs,H2,I2,r2,q2⟩=>⟨x::xs,H2,I2,.cons r1 r2,q2⟩
def Ra(t:TA):TE:=fun σ H Q=>t σ H fun xs H1=>xs.length<=sizeLine/\∀p,H1 p=none->Q (.ref p) (upd H1 p (.tup xs))
def GU(t:TA):TE:=fun σ H Q=>t σ H fun xs H1=>xs.length<=sizeLine/\∀p,H1 p=none->Q (.ref p) (upd H1 p (.lst xs))
theorem Oj{x1}(h:PA X es t):PE X (.Tuple es x1 pos) (Ra t):=by intro Dz s σ H Q I hq;refine wpAny_Tuple_spliced (thn (h pos Dz s σ H _ I hq) fun us s1 ⟨xs,H1,I1,r,z,q⟩=>⟨by rw[<- r.length];exact z,?_⟩);have hf:H1 s1.heap.objs.size=none:=I1.hok.fresh (Nat.le_refl _);refine⟨.ref s1.heap.objs.size,upd H1 s1.heap.objs.size (.tup xs),I1.laid (t':=s1.toks) (fun b u e=>Vp _ e) (Nat.le_refl _) ?_,rfl,q _ hf⟩;exact⟨z,us,r,⟨_,VY _ rfl,rfl,_,rfl⟩⟩
theorem CS(h:PA X es t):PE X (.List es pos) (GU t):=by intro Dz s σ H Q I hq;refine wpAny_List_spliced (thn (h pos Dz s σ H _ I hq) fun us s1 ⟨xs,H1,I1,r,z,q⟩=>⟨by rw[<- r.length];exact z,?_⟩);have hf:H1 s1.heap.objs.size=none:=I1.hok.fresh (Nat.le_refl _);refine⟨.ref s1.heap.objs.size,upd H1 s1.heap.objs.size (.lst xs),I1.laid (t':=s1.toks) (fun b u e=>Vp _ e) (Nat.le_refl _) ?_,rfl,q _ hf⟩;exact⟨z,us,0,r,VY _ rfl⟩
end
noncomputable abbrev Sp:=List V->Hp->VK->XK->Prop
noncomputable abbrev CXT:=List Env->Hp->Shared->XK->Value->Shared->Prop
structure Ko(P:Program)(w:World)(K:Dk)(mg:Str->Option Value)(base:Heap)(A:Around)(outer:List Env)(s:Shared)(H:Hp):Prop where
 frames:A.frames=some outer
 mod:Mod K mg base
 bs:∀b o,base.get? b=some o->s.heap.get? b=some o/\H b=none
 bsz:base.objs.size<=s.heap.objs.size
 ve:s.heap.FunFrames base outer
 frf:∀b∈frs outer,H b=none
 hok:HOk P w H s.heap
 bare:AllBare s.gens
def CE(outer:List Env)(P:Program)(w:World)(H:Hp)(s:Shared)(Q:VK)(u:Value)(s':Shared):Prop:=
 ∃v H',s'.os=s.os/\AllBare s'.gens/\Un (frs outer) [] H H' s.heap s'.heap/\HOk P w H' s'.heap/\RelV v u/\Q v H'
def CR(CX:CXT)(outer:List Env)(P:Program)(w:World)(H:Hp)(s:Shared)(Q:VK)(E:XK)(r:Result)(s':Shared):Prop:=
 match r with
 |.ok (.ret u)=>CE outer P w H s Q u s'
 |.ok _=>False
 |.error e=>CX outer H s E e s'
structure ck(P:Program)(w:World)(K:Dk)(mg:Str->Option Value)(base:Heap)(CX:CXT)(k:Nat)(f:Addr)(fd:FuncData)(ps:List Str)(sp:Sp):Prop where
 len:∀vs H Q E,sp vs H Q E->vs.length=ps.length
 run:∀(A:Around) (outer:List Env) (s:Shared) (H:Hp) (args:Args) (us:List Value) (vs:List V) (Q:VK) (E:XK),bP k A->Ko P w K mg base A outer s H->BindsTo s fd args (ps.zip us)->Vals vs us->sp vs H Q E ->
  codeAny (model P w) A (.call (.ref f) args) (CR CX outer P w H s Q E) s
section
variable{X:Cx}{Dz:List (Addr×Obj)}{σ:St}{H:Hp}{s s':Shared}
theorem Inv.Rb(I:Inv X Dz σ H s):Ko X.prog X.w X.K X.mg X.base X.A X.stack s H:=
 ⟨I.ok.frames,I.ok.mod,I.bs,Nat.le_trans I.ok.bsz I.sz,I.stack,I.zV,I.hok,I.bare⟩
theorem Inv.after{Q:VK}{u:Value}(I:Inv X Dz σ H s)(h:CE X.stack X.prog X.w H s Q u s'):EP X Dz σ Q u s':=by obtain⟨v,H',os,bare,un,hok,r,q⟩:=h;obtain⟨hh,g,d,t,os'⟩:=s';obtain rfl:os'=s.os:=os;exact⟨v,H',I.call (h':=hh) (g':=g) (d':=d) (t':=t) (ch:=[]) un hok bare (fun b z=>absurd z (by simp)),r,q⟩
end
def A3(sp:Sp)(dvs:List V)(E:XK)(t:TA):TE:=fun σ H Q=>t σ H fun vs H1=>sp (vs++dvs) H1 Q E
def Binds(K:Dk)(fd:FuncData)(ps:List Str)(ds:List Value):Prop:=
 ∀(s:Shared) (us:List Value),K.In s.heap->(us++ds).length=ps.length->BindsTo s fd ⟨us,[]⟩ (ps.zip (us++ds))
theorem Binds.all{K:Dk}{fd:FuncData}{ps:List Str}(h:∀us:List Value,us.length=ps.length->bindArgs fd ⟨us,[]⟩=pure (ps.zip us)):Binds K fd ps []:=fun s us _ hl=>by rw[VQ]at hl ⊢;exact .of_eq (h us hl)
def Passes(CX:CXT)(X:Cx)(E:XK):Prop:=∀(Dz:List (Addr×Obj)) (σ:St) (H:Hp) (s:Shared) (e:Value) (s':Shared),Inv X Dz σ H s->CX X.stack H s E e s'->X.xe e s'
section
variable{X:Cx}{CX:CXT}{k:Nat}{f C:Addr}{fd:FuncData}{ps:List Str}{sp:Sp}{dvs:List V}{ds:List Value}{E:XK}{x m:Str}{p pos SM:Pos}{e o:Expr}{es:List Expr}{ta:TE}{t:TA}
theorem Ol{Dz:List (Addr×Obj)}{σ:St}{H:Hp}{s:Shared}{Q:VK}{us:List Value}{vs:List V}(F:ck X.prog X.w X.K X.mg X.base CX k f fd ps sp)(hr:bP k X.A)(hb:Binds X.K fd ps ds)(hd:Vals dvs ds)(hx:Passes CX X E)
  (I:Inv X Dz σ H s) (r:Vals vs us) (h:sp (vs++dvs) H Q E):wpAny (model X.prog X.w) X.A (call (.ref f) us) (EP X Dz σ Q) X.xe s:=by
 have r2:Vals (vs++dvs) (us++ds):=r.append hd;have hl:(us++ds).length=ps.length:=by rw[<- r2.length];exact F.len _ _ _ _ h
 refine wpAny_call (codeAny_mono (F.run X.A X.stack s H ⟨us,[]⟩ (us++ds) (vs++dvs) Q E hr I.Rb (hb s us I.kIn hl) r2 h) fun r s' hq=>?_);cases r with
 |error e=>exact hx Dz σ H s e s' I hq
 |ok fl=>
  cases fl with
  |ret u=>exact I.after hq
  |next=>exact Vx hq
  |brk=>exact Vx hq
  |cont=>exact Vx hq
theorem v8(F:ck X.prog X.w X.K X.mg X.base CX k f fd ps sp)(hr:bP k X.A)(hg:Gl X x)(hm:X.mg x=some (.ref f))(hk:Wc X.K (.ref f)=true)(hb:Binds X.K fd ps ds)(hd:Vals dvs ds)(hx:Passes CX X E)
  (ha:PA X (e::es) t) (SS:(x == ("__debug__" : Str))=false:=by decide) (he:starEach (e::es) X.env=(false,eval e X.env)::starEach es X.env:=by rfl) (Nm:(backTo pos (starEach es X.env)).any (·.1)=false:=by rfl) :
  PE X (.Call (.Name x p) (e::es) [] pos) (A3 sp dvs E t):=by
 intro Dz s σ H Q I h;refine wpAny_Call_Name_kw (qV I hg hm ?_ SS);refine PySem.W.callWith_K (h₀:=X.base) I.ok.mod.kin hk (thn (ha pos Dz s σ H _ I h) fun us s1 ⟨vs,H1,I1,r,q⟩=>⟨I1.kIn,?_⟩) he Nm;exact Ol F hr hb hd hx I1 r q
end
section
variable{x:Str}{v:Value}
structure bg(N P:List Str)(sc:Scope):Prop where
 kind:sc.kind=.function
 co:sc.isCoroutine=false
 gen:sc.isGenerator=false
 nd:N.Nodup
 pre:N.take P.length=P
 par:∀x∈P,sc.names.lookup x=some .local\/sc.names.lookup x=some .cell
 Om:∀y∈sc.names,y.2≠.free
theorem yY{kindOf:Str->Option NameKind}:∀{binds:List (Str×Value)} {m:Str->Option Value},(∀v,(x,v)∉binds)->bindL kindOf binds m x=m x
 |[],_,_=>rfl
 |(n,v)::r,m,h=>by
  unfold bindL;rw[yY fun w hw=>h w (Ds _ hw)];split
  ·have:x≠n:=by rintro rfl;exact h v PU
   simp[this]
  ·rfl
theorem yZ{kindOf:Str->Option NameKind}:∀{binds:List (Str×Value)} {m:Str->Option Value},(∀v,(x,v)∉binds)->bindC kindOf binds m x=m x
 |[],_,_=>rfl
 |(n,v)::r,m,h=>by
  unfold bindC;rw[yZ fun w hw=>h w (Ds _ hw)];split
  ·rfl
  ·have:x≠n:=by rintro rfl;exact h v PU
   simp[this]
theorem y9{kindOf:Str->Option NameKind}:∀{P:List Str} {vs:List Value} {i:Nat} {m:Str->Option Value},P.Nodup->P[i]?=some x->vs[i]?=some v->kindOf x=some .local ->
  bindL kindOf (P.zip vs) m x=some v
 |[],_,_,_,_,h,_,_=>by simp at h
 |_::_,[],_,_,_,_,h,_=>by simp at h
 |p::P,w::vs,0,m,nd,h1,h2,hk=>by simp at h1 h2;subst h1;subst h2;show bindL kindOf ((p,w)::P.zip vs) m p=_;unfold bindL;rw[yY fun v hv=>(VI.mp nd).1 (YF hv).1,if_pos hk];simp
 |p::P,w::vs,i+1,m,nd,h1,h2,hk=>by show bindL kindOf ((p,w)::P.zip vs) m x=_;unfold bindL;exact y9 (i:=i) (VI.mp nd).2 (by simpa using h1) (by simpa using h2) hk
theorem y_{kindOf:Str->Option NameKind}:∀{P:List Str} {vs:List Value} {i:Nat} {m:Str->Option Value},P.Nodup->P[i]?=some x->vs[i]?=some v->kindOf x≠some .local ->
  bindC kindOf (P.zip vs) m x=some v
 |[],_,_,_,_,h,_,_=>by simp at h
 |_::_,[],_,_,_,_,h,_=>by simp at h
 |p::P,w::vs,0,m,nd,h1,h2,hk=>by simp at h1 h2;subst h1;subst h2;show bindC kindOf ((p,w)::P.zip vs) m p=_;unfold bindC;rw[yZ fun v hv=>(VI.mp nd).1 (YF hv).1,if_neg hk];simp
 |p::P,w::vs,i+1,m,nd,h1,h2,hk=>by show bindC kindOf ((p,w)::P.zip vs) m x=_;unfold bindC;exact y_ (i:=i) (VI.mp nd).2 (by simpa using h1) (by simpa using h2) hk
noncomputable def start(N:List Str)(vs:List V):St:=vs.map some++Dp (N.length-vs.length) none
noncomputable def lQ(CX:CXT)(P:Program)(w:World)(K:Dk)(mg:Str->Option Value)(base:Heap)(N:List Str)(qual:Str)(scope:Scope)(f:Addr)(cd:Value)(A:Around)(outer:List Env)(s:Shared)(H:Hp)(E:XK):Cx where
 prog:=P
 w:=w
 K:=K
 mg:=mg
 base:=base
 A:=A.deeper (envOfC qual scope s.heap.objs.size f cd)
 N:=N
 s₀:=s
 H₀:=H
 env:=envOfC qual scope s.heap.objs.size f cd
 outer:=outer
 stack:=envOfC qual scope s.heap.objs.size f cd::outer
 ex:=[]
 calm:=true
 fn:=fun _=>true
 pn:=[]
 xe:=fun e s'=>wpAny (model P w) (A.deeper (envOfC qual scope s.heap.objs.size f cd)) (leaving (envOfC qual scope s.heap.objs.size f cd) e) (fun _ s''=>CX outer H s E e s'') (fun e' s''=>CX outer H s E e' s'') s'
theorem A4{sc:Scope}{n:Nat}(h:sc.names.lookup x=some .cell):∃c,(cellsFrom n sc.names []).lookup x=some c:=by have q:=PySem.W.cellsFrom_some sc.names n [] (.inl h);exact VP.mp q
theorem Fw{CX:CXT}{P:Program}{w:World}{K:Dk}{mg:Str->Option Value}{base:Heap}{N ps:List Str}{qual:Str}{scope:Scope}{f:Addr}{cd:Value}{A:Around}{outer:List Env}{s s1:Shared}{H:Hp}{E:XK}{us:List Value}{vs:List V}
  (S:bg N ps scope) (hd:A.handled=none) (e0:Ko P w K mg base A outer s H) (hl:vs.length=ps.length) (r:Vals vs us)
  (x:InCallC s s.heap.objs.size (bindL (envOfC qual scope s.heap.objs.size f cd).kindOf (ps.zip us) fun _=>none) (cellsFrom (s.heap.objs.size+1) scope.names []) (bindC (envOfC qual scope s.heap.objs.size f cd).kindOf (ps.zip us) fun _=>none) s1) :
  Inv (lQ CX P w K mg base N qual scope f cd A outer s H E) [] (start N vs) H s1:=by
 have Nm:ps.length<=N.length:=by have:=congrArg List.length S.pre;rw[V8]at this;lia
 obtain⟨h1,tk,rfl,hk⟩:=x.done;have noA:∀b:Addr,b∉(lQ CX P w K mg base N qual scope f cd A outer s H E).ex:=fun b z=>absurd (show b∈([]:List Addr) from z) (by simp);refine ⟨⟨e0.mod,S.kind,rfl,rfl,Nat.le_refl _,fun y z c h1 h2=>?_,fun y hy=>?_,fun y c _ h=>?_,fun _=>hd,Around.frames_deeper e0.frames,.inr ⟨rfl,rfl⟩,fun b z=>absurd z (noA b),e0.bs,e0.bsz,fun b _ _=>noA b,fun b z=>absurd z (noA b),e0.ve,e0.frf⟩,
  rfl,e0.bare,Un.kept hk,⟨_,x.toInCall.ns,fun i y v h1 h2 h3=>?_⟩,fun y c h=>⟨_,x.cell y c h⟩,e0.hok.fresh (Nat.le_refl _),fun y c h=>?_,fun p hp=>absurd (show p∈([]:List (Addr×Obj)) from hp) (by simp),e0.hok.kept hk,?_⟩
 ·exact name_of_addr x.apart (PySem.mem_of_lookup h1) (PySem.mem_of_lookup h2)
 ·have hy:scope.names.lookup y=some .cell\/scope.names.lookup y=some .free:=hy;rcases hy with hy | hy
  ·exact A4 hy
  ·exact absurd rfl (S.Om _ (PySem.mem_of_lookup hy))
 ·exact Yx (x.above y c (PySem.mem_of_lookup h))
 ·have hi:i<vs.length:=by
   unfold start at h2;by_cases hi:i<vs.length
   ·exact hi
   ·rw[Vs (by simpa using hi)]at h2;rw[VR]at h2;split at h2<;>cases h2
  have ha:vs[i]?=some v:=by
   unfold start at h2;rw[Vi (by simpa using hi),VH]at h2;cases e:vs[i]? with
   |none=>rw[e]at h2;cases h2
   |some a=>rw[e]at h2;cases h2;rfl
  obtain⟨u,hu,rv⟩:=r.get ha;have hp:ps[i]?=some y:=by rw[<- S.pre,WV (by lia)];exact h1
  have ndP:ps.Nodup:=by rw[<- S.pre];exact S.nd.sublist (List.take_sublist _ _)
  refine⟨u,rv,?_⟩;rcases S.par y (WG hp) with k | k
  ·exact .inl ⟨k,y9 ndP hp hu k⟩
  ·obtain⟨c,e⟩:=A4 (n:=s.heap.objs.size+1) k;refine .inr ⟨.inl k,c,e,?_⟩;have q:=x.cell y c e;rw[y_ ndP hp hu (by show scope.names.lookup y≠_;rw[k];decide)]at q;exact q
 ·exact e0.hok.fresh (Yx (x.above y c (PySem.mem_of_lookup h)))
 ·unfold start;show _=N.length;rw[Vn,Pa,W3]
  lia
theorem MR{CX:CXT}{P:Program}{w:World}{K:Dk}{mg:Str->Option Value}{base:Heap}{k:Nat}{f:Addr}{name qual:Str}{params:Arguments}{body:List Stmt}{scope:Scope}{dV kV doc pm cdv ct oc:Value}{an od:Option Addr}
  {osl:Array (Option Value)} {N ps:List Str} {sp:Sp} (lk:K.lookup f=some ⟨oc,od,.func (VZ name qual params body scope dV kV doc pm an cdv ct),osl⟩) (SK:XI K cdv qual=true) (S:bg N ps scope)
  (len:∀vs H Q E,sp vs H Q E->vs.length=ps.length)
  (hbody:∀ (A:Around) (outer:List Env) (s:Shared) (H:Hp) (vs:List V) (Q:VK) (E:XK),bP k (A.deeper (envOfC qual scope s.heap.objs.size f cdv))→sp vs H Q E →
   ∃t,PSs (lQ CX P w K mg base N qual scope f cdv A outer s H E) body t/\t { nx:=fun _ H'=>Q .non H',rt:=Q } (start N vs) H) :
  ck P w K mg base CX (k+1) f (VZ name qual params body scope dV kV doc pm an cdv ct) ps sp:=by
 refine⟨len,fun A outer s H args us vs Q E hr e0 hb r hsp=>?_⟩;have hl:=len _ _ _ _ hsp;have KX:K.In s.heap:=e0.mod.kin.keeps fun b o e=>(e0.bs b o e).1;have lim:s.heap.NoLimit:=e0.mod.nolimit.keeps fun b o e=>(e0.bs b o e).1;have hkind:∀y∈ps.zip us,scope.names.lookup y.1=some .local\/(scope.names.lookup y.1=some .cell/\((cellsFrom (s.heap.objs.size+1) scope.names []).lookup y.1).isSome=true):=fun⟨n,v⟩ hy=>by
  rcases S.par n (YF hy).1 with q | q
  ·exact .inl q
  ·exact .inr ⟨q,PySem.W.cellsFrom_some _ _ _ (.inl q)⟩
 refine codeAny_call_function hr.depth (KX _ _ lk) rfl S.co S.gen rfl (PySem.W.codeRec_of KX SK) (hb _ _ _ _ ?_);refine wpAny_newFunctionEnv_cells S.kind hkind fun env he s1 x=>?_;subst he;refine⟨lim.keeps x.toInCall.keep,codeAny_func ?_⟩;obtain⟨t,ht,hq⟩:=hbody A outer s H vs Q E (hr.deeper _) hsp;have I:Inv (lQ CX P w K mg base N qual scope f cdv A outer s H E) [] (start N vs) H s1:=Fw S hr.hd e0 hl r x;refine wpAny_mono (ht [] s1 (start N vs) H _ I hq) (fun fl s' hs=>?_) fun e s' hs=>hs;have Qi:∀{σ':St} {H':Hp} {v:V} {u:Value},Inv (lQ CX P w K mg base N qual scope f cdv A outer s H E) [] σ' H' s'->RelV v u->Q v H'->CE outer P w H s Q u s':=
  fun {σ' H' v u} J rv q=>⟨v,H',J.os,J.bare,J.base,J.hok,rv,q⟩
 cases fl with
 |ret u=>obtain⟨v,σ',H',J,rv,q⟩:=hs;exact Qi J rv q
 |next=>obtain⟨σ',H',J,q⟩:=hs;exact Qi (v:=V.non) (u:=Value.none) J rfl q
 |brk=>obtain⟨_,_,_,q⟩:=hs;exact Vx q
 |cont=>obtain⟨_,_,_,q⟩:=hs;exact Vx q
end
section
variable{X:Cx}{x:Str}{p pos:Pos}{e:Expr}{es:List Expr}{t:TA}{id T:String}{r:List V->Hp->VK->Prop}
def tCB(r:List V->Hp->VK->Prop)(t:TA):TE:=fun σ H Q=>t σ H fun vs H1=>r vs H1 Q
theorem qZ(hc:fy X (.builtin id) r)(hg:Gl X x)(hm:X.mg x=none)(hv:bootBuiltins x=some (.builtin id))(ha:PA X (e::es) t)(hn:x ≠ "__name__" := by decide)(SS:(x == ("__debug__" : Str))=false:=by decide)
  (he:starEach (e::es) X.env=(false,eval e X.env)::starEach es X.env:=by rfl) (Nm:(backTo pos (starEach es X.env)).any (·.1)=false:=by rfl):PE X (.Call (.Name x p) (e::es) [] pos) (tCB r t):=by
 intro Dz s σ H Q I h;refine wpAny_Call_Name_kw (sU I hg hm hv ?_ hn SS);exact PyProof.Rows.callWith_builtin1 (thn (ha pos Dz s σ H _ I h) fun us s1 ⟨vs,H1,I1,r1,q1⟩=>hc Dz s1 σ H1 vs us Q I1 r1 q1) he Nm
theorem Fx(hc:fy X (.type T) r)(hg:Gl X x)(hm:X.mg x=none)(hv:bootBuiltins x=some (.type T))(ha:PA X (e::es) t)(hn:x ≠ "__name__" := by decide)(SS:(x == ("__debug__" : Str))=false:=by decide)
  (he:starEach (e::es) X.env=(false,eval e X.env)::starEach es X.env:=by rfl) (Nm:(backTo pos (starEach es X.env)).any (·.1)=false:=by rfl):PE X (.Call (.Name x p) (e::es) [] pos) (tCB r t):=by
 intro Dz s σ H Q I h;refine wpAny_Call_Name_kw (sU I hg hm hv ?_ hn SS);exact W0 (thn (ha pos Dz s σ H _ I h) fun us s1 ⟨vs,H1,I1,r1,q1⟩=>hc Dz s1 σ H1 vs us Q I1 r1 q1) he Nm
end
end L2
namespace HT
open PySem PyProof.Rows
section
variable{prog:Program}{w:World}{A:Around}{E:Value->Shared->Prop}{s:Shared}
section
variable{lo hi:Option Int}{vl vu:Value}
noncomputable def sIx(n d:Nat):Option Int->Nat
 |none=>d
 |some v=>if v<0 then (v+(n:Int)).toNat else min v.toNat n
theorem Oo(n d:Nat)(hd:d<=n)(o:Option Int):sIx n d o<=n:=by
 cases o with
 |none=>exact hd
 |some v=>
  show (if v<0 then (v+(n:Int)).toNat else min v.toNat n)<=n;by_cases hv:v<0
  ·rw[if_pos hv];lia
  ·rw[if_neg hv];exact Nat.min_le_right _ _
theorem Eg(v:Int)(n d:Nat):(if v<0 then max (v+(n:Int)) 0 else min v (n:Int))=((sIx n d (some v):Nat):Int):=by
 show (if v<0 then max (v+(n:Int)) 0 else min v (n:Int))=(((if v<0 then (v+(n:Int)).toNat else min v.toNat n):Nat):Int)
 by_cases hv:v<0
 ·simp only[if_pos hv];lia
 ·simp only[if_neg hv];lia
theorem CT(lo hi:Option Int)(n:Nat):Xz lo hi 1 (n:Int)=(((sIx n 0 lo:Nat):Int),((sIx n n hi:Nat):Int)):=by
 have h1:¬((1:Int)<0):=by lia
 unfold Xz;simp only[h1,if_false];refine Prod.ext ?_ ?_
 ·cases lo with
  |none=>rfl
  |some v=>exact Eg v n 0
 ·cases hi with
  |none=>rfl
  |some v=>exact Eg v n n
theorem CU(i j:Nat):Xc (i:Int) (j:Int) 1=j-i:=by
 unfold Xc;have h1:(1:Int)>0:=by lia
 simp only[h1,if_true,Int.ediv_one];split<;>lia
theorem wO{v:Value}{o:Option Int}{Q:Option Int->Shared->Prop}(p:IsPart v o)(h:Q o s):wpAny (model prog w) A (Builtin.Slice.slicePartIndex v) Q E s:=by
 cases p with
 |none=>exact slicePart_none h
 |int i t=>exact slicePart_int h
theorem sX{sl:Addr}{n:Nat}{Q:Int×Int×Nat->Shared->Prop}(hs:s.heap.IsSliceOf sl vl vu .none)(pl:IsPart vl lo)(pu:IsPart vu hi)
  (h:Q (((sIx n 0 lo:Nat):Int),1,sIx n n hi-sIx n 0 lo) s):wpAny (model prog w) A (Builtin.Slice.sliceApplied (.ref sl) (pure (n:Int))) Q E s:=by
 obtain⟨os,hos,hcs,hds⟩:=id hs;unfold Builtin.Slice.sliceApplied Builtin.Slice.sliceFields;refine wpAny_bind (wpAny_bind (wpAny_field hos hds (x:=vl) rfl (wpAny_bind (wpAny_field hos hds (x:=vu) rfl (wpAny_bind (wpAny_field hos hds (x:=.none) rfl (wpAny_pure ?_)))))));refine wpAny_bind (slicePart_none ?_);show wpAny _ _ (if ((1:Int) == 0)=true then _ else _) _ _ s;rw[if_neg (by decide)];refine wpAny_bind (wO pl (wpAny_bind (wO pu (wpAny_bind (wpAny_pure ?_)))));show wpAny _ _ (match Xz lo hi 1 (n:Int) with | (lo,hi)=>pure (lo,(1:Int),Xc lo hi 1)) _ _ s;rw[CT lo hi n];show wpAny _ _ (pure (((sIx n 0 lo:Nat):Int),(1:Int),Xc ((sIx n 0 lo:Nat):Int) ((sIx n n hi:Nat):Int) 1)) _ _ s;rw[CU];exact wpAny_pure h
theorem GV(xs:Array Value)(i k:Nat):((VO k).filterMap fun(m:Nat)=>xs[((i:Int)+(m:Int)*1).toNat]?).toArray=((xs.toList.drop i).take k).toArray:=by
 have e:(fun(m:Nat)=>xs[((i:Int)+(m:Int)*1).toNat]?)=fun m=>xs[i+m]?:=by
  funext m
  have:((i:Int)+(m:Int)*1).toNat=i+m:=by lia
  rw[this]
 rw[e];have:=pick_run xs i k;rw[List.filterMap_map]at this;have e2:((fun x=>xs[x]?)∘fun x=>i+x)=fun m=>xs[i+m]?:=rfl;rw[e2]at this;rw[this]
theorem q_{t sl:Addr}{items:Array Value}{Q:Value->Shared->Prop}(ht:IsTup s.heap t items)(hs:s.heap.IsSliceOf sl vl vu .none)(pl:IsPart vl lo)(pu:IsPart vu hi)
  (hw:¬(sIx items.size 0 lo=0/\sIx items.size items.size hi=items.size))
  (h:Q (.ref s.heap.objs.size) { s with heap:=s.heap.push { cls:=.type "tuple",data:=.seq ((items.toList.drop (sIx items.size 0 lo)).take (sIx items.size items.size hi-sIx items.size 0 lo)).toArray } })
  (hsz:items.size<=sizeLine):wpAny (model prog w) A (getItem (.ref t) (.ref sl)) Q E s:=by
 have Eh:sizeOk (.seq ((items.toList.drop (sIx items.size 0 lo)).take (sIx items.size items.size hi-sIx items.size 0 lo)).toArray):=by show ((items.toList.drop (sIx items.size 0 lo)).take (sIx items.size items.size hi-sIx items.size 0 lo)).toArray.size<=sizeLine;rw[Vo,V8,XT,Vu];omega
 have hj:sIx items.size items.size hi<=items.size:=Oo _ _ (Nat.le_refl _) hi;obtain⟨os,hos,hcs,hds⟩:=id hs;have hTs:s.TypeIs (.ref sl) "slice" := ⟨os,hos,hcs⟩
 unfold getItem
 try with_reducible refine wpAny_holding ?_
 first | refine wpAny_bind (wpAny_pure ?_) | skip
 refine wpAny_bind (wpAny_sequenceKey ht.typeIs (by decide) ?_);refine wpAny_bind (wpAny_callSpecial?_slot (name:=Yz "__getitem__") ht.typeIs Xj
  (wpAny_call_entry Xj ht.typeIs entry_tuple_getitem ?_ (args_tuple_getitem _ _)))
 show wpAny _ _ (Builtin.Tuple.tupleItemsOf (.ref t) >>= _) _ _ s;refine wpAny_bind (tupleItemsOf_ ht ?_);refine wpAny_bind (wpAny_typeOf hTs ?_);rw[if_pos (by decide)];refine wpAny_bind (sX hs pl pu ?_);have hno:¬((((sIx items.size 0 lo:Nat):Int) == 0&&(1:Int) == 1&&(sIx items.size items.size hi-sIx items.size 0 lo) == items.size)=true):=by intro q;rw[Vv,Vv]at q;have q1:((sIx items.size 0 lo:Nat):Int)=0:=eq_of_beq q.1.1;have q2:sIx items.size items.size hi-sIx items.size 0 lo=items.size:=eq_of_beq q.2;exact hw ⟨by omega,by omega⟩
 show wpAny _ _ (if (((sIx items.size 0 lo:Nat):Int) == 0&&(1:Int) == 1&&(sIx items.size items.size hi-sIx items.size 0 lo) == items.size)=true then _ else _) _ _ s;rw[if_neg hno,GV]
 first
  |exact wpAny_bind (m:=Xf _) (wpAny_newObj_type (wpAny_pure ⟨_,rfl,wpAny_pure h⟩) Eh)
  |exact wpAny_bind (m:=Xf _) (wpAny_newObj_type (wpAny_bind (wpAny_pure (wpAny_pure ⟨_,rfl,wpAny_pure h⟩))) Eh)
  |exact wpAny_bind (wpAny_bind (m:=Xf _) (wpAny_newObj_type (wpAny_pure (wpAny_pure ⟨_,rfl,wpAny_pure h⟩)) Eh))
  |exact wpAny_bind (wpAny_bind (m:=Xf _) (wpAny_newObj_type (wpAny_pure ⟨_,rfl,wpAny_pure h⟩) Eh))
end
end
end HT
namespace L2
open PySem PySem.Spec PyProof.Rows
noncomputable abbrev TO:=St->Hp->(Option Int->Hp->Prop)->Prop
def PO(X:Cx)(e:Option Expr)(t:TO):Prop:=
 ∀(Dz:List (Addr×Obj)) (s:Shared) (σ:St) (H:Hp) (Q:Option Int->Hp->Prop),Inv X Dz σ H s->t σ H Q ->
  wpAny (model X.prog X.w) X.A (evalPart e X.env) (fun u s'=>∃o H',Inv X Dz σ H' s'/\IsPart u o/\Q o H') X.xe s
def zY:TO:=fun _ H Q=>Q none H
def GW(t:TE):TO:=fun σ H Q=>t σ H fun x H1=>∃i,x=.int i/\Q (some i) H1
section
variable{X:Cx}{e:Expr}{te:TE}{lo hi:Option Expr}{tl th:TO}{pos p2:Pos}
theorem Kp:PO X none zY:=by intro Dz s σ H Q I h;rw[evalPart_none];exact wpAny_pure ⟨none,H,I,.none,h⟩
theorem Kq(h:PE X e te):PO X (some e) (GW te):=by intro Dz s σ H Q I hw;rw[evalPart_some];refine thn (h Dz s σ H _ I hw) fun u s1 ⟨x,H1,I1,r1,q1⟩=>?_;obtain⟨i,rfl,q⟩:=q1;obtain⟨t,rfl⟩:=r1;exact⟨some i,H1,I1,.int i t,q⟩
def SlR(X:Cx)(r:V->Option Int->Option Int->Hp->VK->Prop):Prop:=
 ∀(Dz:List (Addr×Obj)) (s:Shared) (σ:St) (H:Hp) (x:V) (v vl vu:Value) (lo hi:Option Int) (sl:Addr) (Q:VK),Inv X Dz σ H s->RelV x v->s.heap.IsSliceOf sl vl vu .none->IsPart vl lo->IsPart vu hi->r x lo hi H Q ->
  ∃T id,typeLookup (.type T) "__getitem__" = pure (some (.builtin id))/\s.TypeIs v T/\wpAny (model X.prog X.w) X.A (getItem v (.ref sl)) (EP X Dz σ Q) X.xe s
def tSl(r:V->Option Int->Option Int->Hp->VK->Prop)(te:TE)(tl th:TO):TE:=fun σ H Q=>te σ H fun x H1=>tl σ H1 fun l H2=>th σ H2 fun u H3=>r x l u H3 Q
theorem A5{r:V->Option Int->Option Int->Hp->VK->Prop}(hr:SlR X r)(he:PE X e te)(hl:PO X lo tl)(hu:PO X hi th):PE X (.Subscript e (.Slice lo hi none p2) pos) (tSl r te tl th):=by intro Dz s σ H Q I h;refine Subscript_ (thn (he Dz s σ H _ I h) fun v s1 ⟨x,H1,I1,r1,q1⟩=>?_);refine wpAny_Slice (thn (hl Dz s1 σ H1 _ I1 q1) fun vl s2 ⟨l,H2,I2,pl,q2⟩=>thn (hu Dz s2 σ H2 _ I2 q2) fun vu s3 ⟨u,H3,I3,pu,q3⟩=>?_);rw[evalPart_none];refine wpAny_pure ?_;have I4:Inv X Dz σ H3 { s3 with heap:=s3.heap.push { cls:=.type "slice",data:=.fields #[vl,vu,.none] } }:=I3.kept (t':=s3.toks) fun b ob q=>Vp _ q;obtain⟨T,id,hT,ht,hg⟩:=hr Dz { s3 with heap:=s3.heap.push { cls:=.type "slice",data:=.fields #[vl,vu,.none] } } σ H3 x v vl vu l u s3.heap.objs.size Q I4 r1 (Heap.IsSliceOf.new ..) pl pu q3;show wpAny (model X.prog X.w) X.A (subscriptTail e (.Slice lo hi none p2) v (.ref s3.heap.objs.size)) (EP X Dz σ Q) X.xe { s3 with heap:=s3.heap.push { cls:=.type "slice",data:=.fields #[vl,vu,.none] } };exact tail_any (ops:=[.ref s3.heap.objs.size,v]) ht hT hg (by with_unfolding_all rfl)
noncomputable def yG(xs:List V)(lo hi:Option Int):List V:=(xs.drop (HT.sIx xs.length 0 lo)).take (HT.sIx xs.length xs.length hi-HT.sIx xs.length 0 lo)
theorem uP(xs:List V)(lo hi:Option Int):(yG xs lo hi).length<=xs.length:=by
 unfold yG;rw[V8,XT]
 lia
def Rc(K:Dk):V->Option Int->Option Int->Hp->VK->Prop:=fun x lo hi H Q=>∃a xs,x=.ref a/\SqT K H a xs /\
 ¬(HT.sIx xs.length 0 lo=0/\HT.sIx xs.length xs.length hi=xs.length)/\∀p,H p=none->Q (.ref p) (upd H p (.tup (yG xs lo hi)))
theorem Oq:SlR X (Rc X.K):=by
 intro Dz s σ H x v vl vu lo hi sl Q I rx hs pl pu h;obtain⟨a,xs,rfl,hx,hw,q⟩:=h;cases rx;obtain⟨its,r,ht,hz⟩:=I.tuple hx;have IY:its.toArray.size=xs.length:=by rw[Vo];exact r.length.symm
 refine⟨"tuple",_,Xj.lookup,ht.typeIs,?_⟩;refine HT.q_ ht hs pl pu (by rw[IY];exact hw) ?_ (by rw[IY];exact hz);rw[IY];refine⟨.ref s.heap.objs.size,_,I.laid (t':=s.toks) (o:=.tup (yG xs lo hi)) (fun b ob q=>Vp _ q) (Nat.le_refl _) ?_,rfl,q _ (I.hok.fresh (Nat.le_refl _))⟩;exact⟨Nat.le_trans (uP xs lo hi) hz,_,(r.drop (HT.sIx xs.length 0 lo)).take (HT.sIx xs.length xs.length hi-HT.sIx xs.length 0 lo),IsTup.new _ _⟩
end
noncomputable def ixN(n:Nat)(i:Int):Option Nat:=if 0<=i then (if i<n then some i.toNat else none) else if -(n:Int)<=i then some (i+n).toNat else none
noncomputable def atI{α:Type}(xs:List α)(i:Int):Option α:=(ixN xs.length i).bind fun j=>xs[j]?
theorem Ei{n:Nat}{i:Int}{j:Nat}(h:ixN n i=some j):seqIndex? i n=some j/\j<n/\-(n:Int)<=i/\i<n:=by
 unfold ixN at h;by_cases h0:0<=i
 ·rw[if_pos h0]at h;by_cases h1:i<n
  ·rw[if_pos h1]at h;have e:i.toNat=j:=Option.some.inj h;exact⟨by rw[seqIndex_of h0 h1,e],by lia,by lia,h1⟩
  ·rw[if_neg h1]at h;cases h
 ·rw[if_neg h0]at h;by_cases h1:-(n:Int)<=i
  ·rw[if_pos h1]at h;have e:(i+n).toNat=j:=Option.some.inj h;exact⟨by rw[seqIndex_neg (by lia) h1,e],by lia,h1,by lia⟩
  ·rw[if_neg h1]at h;cases h
theorem Ej{α:Type}{xs:List α}{i:Int}{v:α}(h:atI xs i=some v):∃j,seqIndex? i xs.length=some j/\xs[j]?=some v/\j<xs.length/\-(xs.length:Int)<=i/\i<xs.length:=by
 unfold atI at h;cases e:ixN xs.length i with
 |none=>rw[e]at h;cases h
 |some j=>rw[e]at h;obtain⟨h1,h2,h3,h4⟩:=Ei e;exact⟨j,h1,h,h2,h3,h4⟩
def zZ(b:Expr):Prop:=∀o i,subscripted b false o i=operate [o,i] (getItem o i)
def IxR(X:Cx)(r:R2):Prop:=
 ∀(value slice:Expr) (Dz:List (Addr×Obj)) (s:Shared) (σ:St) (H:Hp) (x y:V) (v u:Value) (Q:VK),Inv X Dz σ H s->RelV x v->RelV y u->r x y H Q ->
  subscripted slice false v u=operate [v,u] (getItem v u)->wpAny (model X.prog X.w) X.A (subscriptTail value slice v u) (EP X Dz σ Q) X.xe s
def MtR(X:Cx)(id:String)(r:V->List V->Hp->VK->Prop):Prop:=
 ∀(Dz:List (Addr×Obj)) (s:Shared) (σ:St) (H:Hp) (x:V) (xs:List V) (v:Value) (us:List Value) (Q:VK),Inv X Dz σ H s->RelV x v->Vals xs us->r x xs H Q ->
  wpAny (model X.prog X.w) X.A (call (.builtin id) (v::us)) (EP X Dz σ Q) X.xe s
section
variable{X:Cx}{a b:Expr}{ta tb:TE}{pos:Pos}
section
variable{Dz:List (Addr×Obj)}{s:Shared}{H:Hp}{σ:St}
theorem IxR.or{r r':R2}(h:IxR X r)(h':IxR X r'):IxR X (fun x y H Q=>r x y H Q\/r' x y H Q):=by
 intro value slice Dz s σ H x y v u Q I rx ry q hs;rcases q with q | q
 ·exact h value slice Dz s σ H x y v u Q I rx ry q hs
 ·exact h' value slice Dz s σ H x y v u Q I rx ry q hs
theorem MS{r:R2}(hr:IxR X r)(ha:PE X a ta)(hb:PE X b tb)(hs:zZ b):PE X (.Subscript a b pos) (tOp r ta tb):=by intro Dz s σ H Q I h;exact Subscript_ (N_ ha hb I h fun v u s2 x y H2 I2 rx ry q=>hr a b Dz s2 σ H2 x y v u Q I2 rx ry q (hs _ _))
def Ot(K:Dk):R2:=fun x y H Q=>∃p xs i v,x=.ref p/\y=.int i/\SqL K H p xs/\atI xs i=some v/\Q v H
def Rf(K:Dk):R2:=fun x y H Q=>∃p xs i v,x=.ref p/\y=.int i/\SqT K H p xs/\atI xs i=some v/\Q v H
theorem Ek:IxR X (Ot X.K):=by
 intro value slice Dz s σ H x y v u Q I rx ry h hs;obtain⟨p,xs,i,z,rfl,rfl,hq,he,q⟩:=h;cases rx;obtain⟨t,rfl⟩:=ry;obtain⟨its,r,pl,hz⟩:=I.list hq;obtain⟨j,h1,h2,h3,h4,h5⟩:=Ej he;obtain⟨w,ew,rw'⟩:=r.get h2;have hl:=r.length;have hn:=wN;have Qi:EP X Dz σ Q w s:=⟨z,H,I,rw',q⟩
 by_cases h0:0<=i
 ·have hj:i.toNat=j:=by
   rw[seqIndex_of h0 h5]at h1;exact Option.some.inj h1
  exact item_listR pl.isList h0 (by lia) (by rw[hj];simpa using ew) Qi hs
 ·have hj:(i+(its.toArray.size:Int)).toNat=j:=by
   rw[seqIndex_neg (by lia) h4]at h1;rw[Vo,<- hl];exact Option.some.inj h1
  exact subscriptTail_builtinR (x:=w) pl.isList.typeIs slot_list_getitem.lookup
   (wpAny_getItem_list_neg (Q:=fun r s'=>r=w/\EP X Dz σ Q r s') pl.isList (by lia) (by rw[Vo]<;>lia) (by lia) (by rw[hj];simpa using ew) ⟨rfl,Qi⟩) hs
theorem Ou:IxR X (Rf X.K):=by
 intro value slice Dz s σ H x y v u Q I rx ry h hs;obtain⟨p,xs,i,z,rfl,rfl,hq,he,q⟩:=h;cases rx;obtain⟨t,rfl⟩:=ry;obtain⟨its,r,pl,hz⟩:=I.tuple hq;obtain⟨j,h1,h2,h3,h4,h5⟩:=Ej he;obtain⟨w,ew,rw'⟩:=r.get h2;have hl:=r.length;have hn:=wN;have Qi:EP X Dz σ Q w s:=⟨z,H,I,rw',q⟩
 exact subscriptTail_builtinR (x:=w) pl.typeIs slot_tuple_getitem.lookup
  (getItem_tuple (j:=j) (Q:=fun r s'=>r=w/\EP X Dz σ Q r s') pl (by lia) (by lia) (by rw[Vo,<- hl];exact h1) (by simpa using ew) ⟨rfl,Qi⟩) hs
theorem CV(its:List Value)(n j:Nat)(u:Value):Wq (·.setIfInBounds j u) { cls:=.type "list",data:=.seq its.toArray n }={ cls:=.type "list",data:=.seq (its.set j u).toArray n }:=by simp[Wq]
theorem Inv.lst{Dz:List (Addr×Obj)}{σ:St}{H:Hp}{s:Shared}{p:Addr}{xs:List V}(I:Inv X Dz σ H s)(h:H p=some (.lst xs)) :
  ∃(its:List Value) (n:Nat),Vals xs its/\s.heap.get? p=some { cls:=.type "list",data:=.seq its.toArray n }/\xs.length<=sizeLine:=by
 obtain⟨z,its,n,r,e⟩:=I.hok p _ h;exact⟨its,n,r,e,z⟩
theorem Inv.Ov{p:Addr}{xs ys:List V}{its its':List Value}{n n':Nat}{f:Obj->Obj}(I:Inv X Dz σ H s)(h:H p=some (.lst xs))
  (ho:s.heap.get? p=some { cls:=.type "list",data:=.seq its.toArray n }) (hf:f { cls:=.type "list",data:=.seq its.toArray n }={ cls:=.type "list",data:=.seq its'.toArray n' }) (r:Vals ys its') (hz:ys.length<=sizeLine) (t:Nat) :
  Inv X Dz σ (upd H p (.lst ys)) { s with heap:=s.heap.update p f,toks:=t }:=by
 have e:(s.heap.update p f).get? p=some { cls:=.type "list",data:=.seq its'.toArray n' }:=by rw[WQ f ho (by rw[hf]<;>rfl),hf]
 refine I.write (x:=p) (e:=p) (by rw[h];trivial) (.inl rfl) (fun b u hb q=>(Heap.get?_update_other _ _ (VS hb)).trans q) ⟨_,e⟩ ?_;exact⟨hz,its',n',r,e⟩
def MT:V->V->V->Hp->(Hp->Prop)->Prop:=fun o i v H Q=>∃p xs k j,o=.ref p/\i=.int k/\H p=some (.lst xs)/\ixN xs.length k=some j/\Q (upd H p (.lst (xs.set j v)))
theorem set_list:Q0 X MT:=by
 intro Dz s σ H o i v ov iv u Q I ro ri rv h;obtain⟨p,xs,k,j,rfl,rfl,hp,hj,q⟩:=h;cases ro;obtain⟨t,rfl⟩:=ri;obtain⟨its,n,r,ho,hz⟩:=I.lst hp;obtain⟨h1,h2,h3,h4⟩:=Ei hj;have hl:=r.length;have hn:=wN;have I':Inv X Dz σ (upd H p (.lst (xs.set j v))) { s with heap:=s.heap.update p (Wq (·.setIfInBounds j u)) }:=
  I.Ov hp ho (CV its n j u) (r.set rv j) (by rw[VT];exact hz) s.toks
 by_cases h0:0<=k
 ·have hk:k.toNat=j:=by
   rw[seqIndex_of h0 h4]at h1;exact Option.some.inj h1
  exact PySem.W.ki_setAt ho h0 (by lia) (by rw[Vo,<- hl];exact h4) (by rw[hk];exact⟨_,I',q⟩)
 ·have hk:(k+(its.toArray.size:Int)).toNat=j:=by
   rw[seqIndex_neg (by lia) h3]at h1;rw[Vo,<- hl];exact Option.some.inj h1
  exact PySem.W.ki_setBack ho (by lia) (by rw[Vo,<- hl];exact h3) (by lia) (by rw[hk];exact⟨_,I',q⟩)
theorem z0(lo hi:Option Int)(n:Nat):(sliceBounds lo hi none n).1=((HT.sIx n 0 lo:Nat):Int)/\(sliceBounds lo hi none n).2.1=((HT.sIx n n hi:Nat):Int)/\(sliceBounds lo hi none n).2.2=1:=by
 refine⟨?_,?_,rfl⟩
 ·cases lo with
  |none=>simp[sliceBounds,HT.sIx]
  |some i=>
   simp only[sliceBounds,HT.sIx,Option.getD_none,show (1:Int)>0 by decide,if_true];by_cases h:i<0
   ·simp only[h,if_true]<;>lia
   ·simp only[h,if_false]<;>lia
 ·cases hi with
  |none=>simp[sliceBounds,HT.sIx]
  |some i=>
   simp only[sliceBounds,HT.sIx,Option.getD_none,show (1:Int)>0 by decide,if_true];by_cases h:i<0
   ·simp only[h,if_true]<;>lia
   ·simp only[h,if_false]<;>lia
theorem yH(its:List Value)(lo hi:Option Int):slicePick its.toArray lo hi none=((its.drop (HT.sIx its.length 0 lo)).take (HT.sIx its.length its.length hi-HT.sIx its.length 0 lo)).toArray:=by obtain⟨h1,h2,h3⟩:=z0 lo hi its.toArray.size;unfold slicePick;rw[h1,h2,h3];simp only[sliceRange_one,pick_run,Vo]<;>rfl
def Rg(K:Dk):V->Option Int->Option Int->Hp->VK->Prop:=fun x lo hi H Q=>∃a xs,x=.ref a/\SqL K H a xs/\∀p,H p=none->Q (.ref p) (upd H p (.lst (yG xs lo hi)))
theorem Kr:SlR X (Rg X.K):=by intro Dz s σ H x v vl vu lo hi sl Q I rx hs pl pu h;obtain⟨a,xs,rfl,hx,q⟩:=h;cases rx;obtain⟨its,r,ht,hz⟩:=I.list hx;have IY:=r.length;refine⟨"list",_,slot_list_getitem.lookup,ht.isList.typeIs,?_⟩;refine wpAny_getItem_list_slice ht.isList hs pl pu .none (by simp) ?_ (by rw[Vo]<;>lia);rw[yH,<- IY];refine⟨.ref s.heap.objs.size,_,I.laid (t':=s.toks) (o:=.lst (yG xs lo hi)) (fun b ob q=>Vp _ q) (Nat.le_refl _) ?_,rfl,q _ (I.hok.fresh (Nat.le_refl _))⟩;exact⟨Nat.le_trans (uP xs lo hi) hz,_,0,(r.drop (HT.sIx xs.length 0 lo)).take (HT.sIx xs.length xs.length hi-HT.sIx xs.length 0 lo),VY _ rfl⟩
theorem z4:fy X (.builtin "len") (fun xs H Q=>∃p ys,xs=[.ref p]/\(SqL X.K H p ys\/SqT X.K H p ys)/\Q (.int ys.length) H):=by
 intro Dz s σ H xs us Q I r h;obtain⟨p,ys,rfl,hq,q⟩:=h;obtain⟨u,rfl,rx⟩:=vals1 r;cases rx;have hn:=wN;rcases hq with hq | hq
 ·obtain⟨its,r',pl,hz⟩:=I.list hq;have IY:=r'.length;exact Calls.call_len_list pl.isList (by simp only[Vo]<;>lia) ⟨.int ys.length,H,I.tok _,⟨s.toks+1,by rw[Vo,IY]⟩,q⟩
 ·obtain⟨its,r',pl,hz⟩:=I.tuple hq;have IY:=r'.length;exact len_tuple pl (by simp only[Vo]<;>lia) ⟨.int ys.length,H,I.tok _,⟨s.toks+1,by rw[Vo,IY]⟩,q⟩
theorem fy.or{f:Value}{r r':List V->Hp->VK->Prop}(h:fy X f r)(h':fy X f r'):fy X f (fun xs H Q=>r xs H Q\/r' xs H Q):=by
 intro Dz s σ H xs us Q I rs q;rcases q with q | q
 ·exact h Dz s σ H xs us Q I rs q
 ·exact h' Dz s σ H xs us Q I rs q
theorem z5:fy X (.type "list") (fun xs H Q=>∃p ys,xs=[.ref p]/\(SqL X.K H p ys\/SqT X.K H p ys)/\∀l,H l=none->Q (.ref l) (upd H l (.lst ys))):=by
 intro Dz s σ H xs us Q I r h;obtain⟨p,ys,rfl,hq,q⟩:=h;obtain⟨u,rfl,rx⟩:=vals1 r;cases rx;have Qi:∀(its:List Value),Vals ys its->ys.length<=sizeLine->∀(h':Heap) (c':Nat),(∀b o',s.heap.get? b=some o'->h'.get? b=some o') ->
   h'.get? s.heap.objs.size=some { cls:=.type "list",dict:=none,data:=.seq its.toArray c',slots:=#[] }->EP X Dz σ Q (.ref s.heap.objs.size) { s with heap:=h' }:=fun its r' hz h' c' kp e=>
  ⟨.ref s.heap.objs.size,_,I.laid (t':=s.toks) kp (Nat.le_refl _) (show bC X.prog X.w _ h' _ (.lst ys) from ⟨hz,its,c',r',e⟩),rfl,q _ (I.hok.fresh (Nat.le_refl _))⟩
 rcases hq with hq | hq
 ·obtain⟨its,r',pl,hz⟩:=I.list hq;have IY:=r'.length;obtain⟨o,ho,hc,n,hd⟩:=pl.isList;exact call_list_seq p (.inl rfl) ho hc hd (fun h' c' kp e=>Qi its r' hz h' c' kp e) (by simp only[Vo]<;>lia)
 ·obtain⟨its,r',pl,hz⟩:=I.tuple hq;have IY:=r'.length;obtain⟨o,ho,hc,n,hd⟩:=pl;exact call_list_seq p (.inr rfl) ho hc hd (fun h' c' kp e=>Qi its r' hz h' c' kp e) (by simp only[Vo]<;>lia)
theorem yI:fy X (.type "tuple") (fun xs H Q=>∃p ys,xs=[.ref p]/\((SqL X.K H p ys/\∀l,H l=none->Q (.ref l) (upd H l (.tup ys)))\/(SqT X.K H p ys/\Q (.ref p) H))):=by
 intro Dz s σ H xs us Q I r h;obtain⟨p,ys,rfl,h⟩:=h;obtain⟨u,rfl,rx⟩:=vals1 r;cases rx;rcases h with⟨hq,q⟩ | ⟨hq,q⟩
 ·obtain⟨its,r',pl,hz⟩:=I.list hq;have IY:=r'.length;refine call_tuple_list pl.isList (fun h' kp=>?_) (by simp only[Vo]<;>lia);have I1:Inv X Dz σ H { s with heap:=h' }:=I.kept (t':=s.toks) kp;have I2:Inv X Dz σ (upd H h'.objs.size (.tup ys)) { s with heap:=h'.push { cls:=.type "tuple",data:=.seq its.toArray } }:=
   I1.laid (t':=s.toks) (fun b o e=>Vp _ e) (Nat.le_refl _) (show bC X.prog X.w _ _ _ (.tup ys) from ⟨hz,its,r',IsTup.new _ _⟩)
  exact⟨.ref h'.objs.size,_,I2,rfl,q _ (I1.hok.fresh (Nat.le_refl _))⟩
 ·obtain⟨its,r',pl,hz⟩:=I.tuple hq;exact call_tuple_same pl ⟨.ref p,H,I,rfl,q⟩
def tyV(K:Dk)(T:String)(x:V)(H:Hp):Prop:=match x with
 |.str _=>T = "str"
 |.int _=>T = "int"
 |.ref p=>(T = "list" /\ ∃xs,SqL K H p xs)\/(T = "tuple" /\ ∃o,K.lookup p=some o/\o.cls=.type "tuple" /\ o.dict=none) \/
   (T = "dict" /\ ((∃kvs,H p=some (.dK kvs))\/∃kvs ts,H p=some (.dT kvs ts)))\/(T = "set" /\ ∃S n,H p=some (.set S n))
 |_=>False
theorem Ow{T:String}{x:V}{v:Value}(I:Inv X Dz σ H s)(r:RelV x v)(ty:tyV X.K T x H) :
  s.TypeIs v T/\∀a,v=.ref a->∃ob,s.heap.get? a=some ob/\ob.dict=none:=by
 cases x with
 |str z=>obtain⟨t,rfl⟩:=r;cases (show T = "str" from ty);exact⟨typeIs_str s z t,fun _ e=>nomatch e⟩
 |int i=>obtain⟨t,rfl⟩:=r;cases (show T = "int" from ty);exact⟨typeIs_int s i t,fun _ e=>nomatch e⟩
 |ref p=>
  cases r;rcases ty with⟨rfl,xs,hq⟩ | ⟨rfl,o,hk,hc,hd⟩ | ⟨rfl,hk⟩ | ⟨rfl,S,n,hk⟩
  ·obtain⟨its,_,pl,_⟩:=I.list hq;refine⟨pl.isList.typeIs,fun a e=>?_⟩;cases e;obtain⟨o,n,e,c,hd,_⟩:=pl;exact⟨o,e,hd⟩
  ·refine⟨⟨o,I.kIn p o hk,hc⟩,fun a e=>?_⟩;cases e;exact⟨o,I.kIn _ o hk,hd⟩
  ·have z:∃o,s.heap.get? p=some o/\o.ExactDict:=by
    rcases hk with⟨kvs,hk⟩ | ⟨kvs,ts,hk⟩
    ·obtain⟨_,_,_,_,o,_,_,e,ex,_⟩:=I.hok p _ hk;exact⟨o,e,ex⟩
    ·obtain⟨_,_,_,_,o,_,_,e,ex,_⟩:=I.hok p _ hk;exact⟨o,e,ex⟩
   obtain⟨o,e,ex⟩:=z;refine⟨⟨o,e,ex.1⟩,fun a e2=>?_⟩;cases e2;exact⟨o,e,ex.2.1⟩
  ·obtain⟨o,_,_,_,e,ex,_⟩:=I.hok p _ hk;refine⟨⟨o,e,ex.1⟩,fun a e2=>?_⟩;cases e2;exact⟨o,e,ex.2.1⟩
 |_=>exact Vx ty
def tBM(K:Dk)(T:String)(r:V->List V->Hp->VK->Prop)(to:TE)(t:TA):TE:=fun σ H Q=>to σ H fun x H1=>tyV K T x H1/\t σ H1 fun xs H2=>r x xs H2 Q
variable{o e:Expr}{es:List Expr}{to:TE}{t:TA}{name:Str}{SM cpos:Pos}{T id:String}{r:V->List V->Hp->VK->Prop}
theorem El(pa:PlainAttrs T)(slot:Slot T name id)(hty:typeOf (.builtin id)=pure (.type "method_descriptor"))(hm:MtR X id r)(ho:PE X o to)(ha:PA X (e::es) t)
  (Tr:attributeBase o name X.env (eval o X.env)=eval o X.env:=by rfl)
  (hfew:((backTo cpos (starEach (e::es) X.env)).all (fun x=>!x.1)&&(backToKw cpos (keywordEach [] X.env)).all (fun x=>x.1.isSome)
   && decide ((e::es).length+([]:List Keyword).length+(if ([]:List Keyword).isEmpty then 0 else 1)<30))=true:=by rfl)
  (SV:(SM.endLine == cpos.line)=true:=by rfl) (hs:starEach (e::es) X.env=(false,eval e X.env)::starEach es X.env:=by rfl) (R1:(backTo cpos (starEach es X.env)).any (·.1)=false:=by rfl) :
  PE X (.Call (.Attribute o name SM) (e::es) [] cpos) (tBM X.K T r to t):=by
 intro Dz s σ H Q I h;refine wpAny_Call_method_late Tr hfew SV rfl (thn (ho Dz s σ H _ I h) fun v s1 ⟨x,H1,I1,r1,ty,q1⟩=>?_);obtain⟨h1,h2⟩:=Ow I1 r1 ty;refine⟨T,id,pa,slot,hty,h1,h2,?_⟩;have hA:=ha cpos Dz s1 σ H1 _ I1 q1;rw[hs]at hA ⊢;refine XQ (by show (false||(backTo cpos (starEach es X.env)).any (·.1))=false;rw[R1]<;>rfl) (XZ ?_);exact thn hA fun us s2 ⟨vs,H2,I2,r2,q2⟩=>hm Dz s2 σ H2 x vs v us Q I2 r1 r2 q2
end
end
def MtM(X:Cx)(id:String)(r:V->List V->Hp->VK->Prop):Prop:=
 ∀(Dz:List (Addr×Obj)) (s:Shared) (σ:St) (H:Hp) (x:V) (xs:List V) (v:Value) (us:List Value) (Q:VK),Inv X Dz σ H s->RelV x v->Vals xs us->r x xs H Q ->
  wpAny (model X.prog X.w) X.A (call (.builtin id) (v::us)) (EP X Dz σ Q) X.xe s
theorem Vals.one:∀{x:V} {us:List Value},Vals [x] us->∃u,us=[u]/\RelV x u
 |_,_,.cons r .nil=>⟨_,rfl,r⟩
theorem Vals.eraseIdx:∀{xs:List V} {us:List Value} (i:Nat),Vals xs us->Vals (xs.eraseIdx i) (us.eraseIdx i)
 |_,_,_,.nil=>.nil
 |_,_,0,.cons _ t=>t
 |_,_,i+1,.cons r t=>.cons r (Vals.eraseIdx i t)
theorem Vals.rep{xs:List V}{us:List Value}(h:Vals xs us):∀k:Nat,Vals (Dp k xs).flatten (Dp k us).flatten
 |0=>.nil
 |k+1=>by rw[WM,WM,WJ,WJ];exact Vals.append h (Vals.rep h k)
theorem za{α:Type}:∀(l:List α) (i:Nat),(l.eraseIdx i).length<=l.length
 |[],_=>Nat.le_refl _
 |_::_,0=>XR _
 |_::r,i+1=>Nat.succ_le_succ (za r i)
theorem foldl_rep(its:List Value):∀(k:Nat) (Qa:List Value),
  YU (fun x1 x2=>x1++x2) Qa.toArray (Dp k its.toArray)=(Qa++(Dp k its).flatten).toArray
 |0,Qa=>by simp
 |k+1,Qa=>by
  have e:Qa.toArray++its.toArray=(Qa++its).toArray:=by simp
  have e2:(Qa++its)++(Dp k its).flatten=Qa++(Dp (k+1) its).flatten:=by rw[WM,WJ,Wa]
  rw[<- e2,<- foldl_rep its k (Qa++its),<- e,WM,List.foldl_cons]
section
variable{X:Cx}{Dz:List (Addr×Obj)}{σ:St}{H:Hp}{s:Shared}{l b:Addr}{xs ys zs:List V}
theorem Inv.Ox{its its':List Value}{n:Nat}{f:Array Value->Array Value}{t':Nat}(I:Inv X Dz σ H s)(hH:H l=some (.lst xs))
  (e:s.heap.get? l=some { cls:=.type "list",data:=.seq its.toArray n }) (hf:f its.toArray=its'.toArray) (hv:Vals ys its') (hz:ys.length<=sizeLine) :
  Inv X Dz σ (upd H l (.lst ys)) { s with heap:=s.heap.update l (Wq f),toks:=t' }:=by
 have q:=PySem.IsL.update e f;rw[hf]at q;refine I.write (x:=l) (e:=l) (by rw[hH];exact trivial) (.inl rfl) (fun b' u hb hu=>(Heap.get?_update_other s.heap (Wq f) (VS hb)).trans hu) ⟨_,q⟩ ?_;exact⟨hz,its',_,hv,q⟩
theorem Inv.Oz{its:List Value}{t':Nat}(I:Inv X Dz σ H s)(hv:Vals ys its)(hz:ys.length<=sizeLine) :
  Inv X Dz σ (upd H s.heap.objs.size (.lst ys)) { s with heap:=s.heap.push { cls:=.type "list",data:=.seq its.toArray },toks:=t' }:=
 I.laid (fun _ _ q=>Vp _ q) (Nat.le_refl _) ⟨hz,its,0,hv,VY _ rfl⟩
theorem Inv.fresh(I:Inv X Dz σ H s):H s.heap.objs.size=none:=I.hok.fresh (Nat.le_refl _)
theorem Inv.OA(I:Inv X Dz σ H s)(hH:H l=some (.lst xs)):xs.length<=sizeLine/\∃(its:List Value) (n:Nat),Vals xs its/\xs.length=its.length/\s.heap.get? l=some { cls:=.type "list",data:=.seq its.toArray n }:=by obtain⟨z,its,n,r,e⟩:=I.hok l _ hH;exact⟨z,its,n,r,r.length,e⟩
theorem A6{n:Nat}(h:n<=sizeLine):Xg n=false:=by unfold Xg;exact decide_eq_false (by lia)
end
section
variable{X:Cx}
def z6:V->List V->Hp->VK->Prop:=fun x vs H Q=>∃l xs y,x=.ref l/\vs=[y]/\H l=some (.lst xs)/\xs.length<sizeLine/\Q .non (upd H l (.lst (xs++[y])))
theorem sY:MtM X "list.append" z6:=by
 intro Dz s σ H x vs v us Q I rx rv h;obtain⟨l,xs,y,rfl,rfl,hH,hz,q⟩:=h;cases rx;obtain⟨u,rfl,ru⟩:=rv.one;obtain⟨z,its,n,r,hl,e⟩:=I.OA hH;refine call_meets F.slot_list_append ⟨_,e,rfl⟩ F.entry_list_append (F.args_list_append_2 _ _) (PySem.list_append l its.toArray n u (by rw[Vo];lia)) ⟨e,?_⟩;refine⟨.non,_,I.Ox (its':=its++[u]) hH e (by simp) (r.append (.cons ru .nil)) ?_,rfl,q⟩;rw[Vn,W4]
 lia
def GX:V->List V->Hp->VK->Prop:=fun x vs H Q=>∃l xs i k y,x=.ref l/\vs=[.int i]/\H l=some (.lst xs)/\-(2 ^ 63)<=i/\i<2 ^ 63/\seqIndex? i xs.length=some k/\xs[k]?=some y/\Q y (upd H l (.lst (xs.eraseIdx k)))
theorem GY:MtM X "list.pop" GX:=by
 intro Dz s σ H x vs v us Q I rx rv h;obtain⟨l,xs,i,k,y,rfl,rfl,hH,h1,h2,hk,hy,q⟩:=h;cases rx;obtain⟨u,rfl,ru⟩:=rv.one;obtain⟨t,rfl⟩:=ru;obtain⟨z,its,n,r,hl,e⟩:=I.OA hH;obtain⟨w,hw,rw'⟩:=r.get hy;refine call_meets F.slot_list_pop ⟨_,e,rfl⟩ F.entry_list_pop (F.args_list_pop_2 _ _)
  (MeetsSeq.list_pop_at l its.toArray n i t k w (fitsIndex_both h1 h2) (by rw[Vo,<- hl];exact hk) (by rw[<- V4];exact hw) (by rw[Vo];lia)) ⟨e,?_⟩
 refine⟨y,_,I.Ox (its':=its.eraseIdx k) hH e ?_ (r.eraseIdx k) ?_,rw',q⟩
 ·show its.toArray.eraseIdxIfInBounds k=(its.eraseIdx k).toArray;rw[List.eraseIdxIfInBounds_toArray]
 ·have:=za xs k
  lia
theorem len_rep{α:Type}(xs:List α)(k:Nat):(Dp k xs).flatten.length=k*xs.length:=by
 induction k with
 |zero=>simp
 |succ k ih=>rw[WM,WJ,Vn,ih,Nat.succ_mul,Nat.add_comm]
end
end L2
namespace Att
open PySem PySem.W PySem.Calls PyProof.Rows
theorem vg{P:Params}{h:Heap}:∀(ns:List Int) (vs:List Value),WellAll P h vs (ns.map WData.int)->IntsAre vs ns:=by
 intro ns
 induction ns with
 |nil=>intro vs w;rw[XG]at w;cases w;exact .nil
 |cons n ns ih=>
  intro vs w;rw[gV]at w;cases w with
  |cons a b=>cases a;exact .cons _ _ (ih _ b)
theorem Fy{l:OpenLaw}{n:Nat}(hn:l.most=some n){P:Params}{h:Heap}{args:List WData}{vals:List Value}
  (hpre:l.row.toRowW.claim.pre args=true) (hwl:WellAll P h vals args) :
  ∃a vs ns,vals=[VF a]/\args=[WData.list (ns.map WData.int)]/\h.get? a=some { cls:=.type "list",data:=.seq vs.toArray }/\IntsAre vs ns/\ns.length<=n:=by
 have hsh:WShape.hasAll [] args [.list .int]=true:=(pre_splitW hpre).1;have hc:l.pre.holds [] { args:=args }=true:=(pre_splitW hpre).2;obtain⟨d,r,rfl,h1,h2⟩:=hasAllW_cons hsh;obtain rfl:=hasAllW_nil h2;obtain⟨xs,rfl,h3⟩:=hasW_list h1;obtain⟨ns,rfl⟩:=items_int h3;have IY:ns.length<=n:=by
  unfold OpenLaw.pre at hc;have h4:(WTm.not (.lt (.lit (.int (n:Int))) (.len (.arg 0)))).holds [] { args:=[.list (ns.map .int)] }=true:=by have h4:=(holds_andW hc).1;rw[hn]at h4;exact h4
  have h5:=condW_of h4 (w_not (w_lt w_lit (w_len_list (w_arg rfl))));rw[Pa]at h5;refine Nat.le_of_not_lt fun q=>?_;have q':(n:Int)<((ns.length:Nat):Int):=by omega
  first
   |(rw[decide_eq_true q']at h5;exact absurd h5 (by decide))
   |(simp at h5;omega)
 cases hwl with
 |cons w1 w2=>
  cases w2;cases w1 with
  |list ho hall=>exact⟨_,_,ns,rfl,rfl,ho,vg ns _ hall,IY⟩
theorem Fz(l:OpenLaw)(args:List WData):l.row.toRowW.claim.post args (.bool true) args=true:=
 postW_of (r:=l.row.toRowW) (X:=(true == true))
  (show WShape.has [] (.bool true) .bool=true by first | rfl | decide | simp[WShape.has,WShape.arms,WShape.armsAll])
  (show (WTm.eq .res (.lit (.bool true))).value [] { args:=args,res:=some (.bool true),after:=args }=some (.bool (true == true)) from w_eq_bool (w_res rfl) w_lit) rfl
theorem A7{l:OpenLaw}{n:Nat}{q:Program}{loose:List Str}{XP:(Str->Option Value)->Heap->Prop}{YP:World->Heap->Prop}{d:DefRec}
  (hn:l.most=some n) (hdf:d.params.defaults=[])
  (call:∀ (w:World) (s₀ s₁:Shared) (mg mb:Str→Option Value) (fa:Addr) (o:Obj) (pm cd doc:Value) (a:Addr) (vs:List Value) (ns:List Int),
   Ground q loose [] XP w s₀ mg mb s₁.heap->YP w s₁.heap ->
   s₁.heap.get? fa=some o->o.data=.func (docDef d.name d.params d.body d.scope pm cd doc)->s₁.heap.CodeRec cd d.name->mg d.name=some (.ref fa) ->
   s₁.heap.get? a=some { cls:=.type "list",data:=.seq vs.toArray }->IntsAre vs ns->ns.length<=n->s₁.gens=#[] ->
   codeAny (model l.prog w) callerA (.call (.ref fa) ⟨[.ref a],[]⟩) (fun r s'=>r=.ok (.ret (.bool true))/\OldK s₁.heap s'.heap/\s'.os=s₁.os/\AllBare s'.gens) s₁) :
  WalkO q loose XP YP l.row.toRowW d [] (fun f vs=>PySem.call f vs):=by
 intro w s₀ s₁ mg mb G Y fa o pm cd doc dV kV ho hd SK hD hmg hg args vals as hpre hlay hrd hwl hlo;obtain rfl:dV=.none:=Dflts.none hD hdf;obtain rfl:kV=.none:=Dflts.noKw hD;obtain⟨a,vs,ns,rfl,rfl,hobj,hints,IY⟩:=Fy hn hpre hwl;refine enter_call (codeAny_mono (call w s₀ s₁ mg mb fa o pm cd doc a vs ns G Y ho (fd_plain hd) SK hmg hobj hints IY hg) fun r s' hq=>?_);obtain⟨rfl,h2,h3,h4⟩:=hq;exact⟨.inl ⟨.bool true,.bool true,[],rfl,fun _=>rfl,.bool true,Fz l _,fun _=>⟨Yk.nil,fun _ hm=>(nomatch hm)⟩⟩,h2,h3,h4⟩
end Att
namespace L2
open PySem PySem.Spec PyProof.Rows
theorem zb:∀{vs:List Value} {ns:List Int},IntsAre vs ns->Vals (ns.map V.int) vs
 |_,_,.nil=>.nil
 |_,_,.cons n t h=>.cons ⟨t,rfl⟩ (zb h)
def OB(H:Hp):Prop:=∀b,H b=none\/∃o xs,H b=some (.frz o (.lst xs))
theorem GZ{P:Program}{w:World}{K:Dk}{mg mb:Str->Option Value}{CX:CXT}{k:Nat}{fa a:Addr}{fd:FuncData}{x:Str}{sp:Sp}{s₁:Shared}{vs:List Value}{ns:List Int}
  (KX:K.In s₁.heap) (hns:s₁.heap.Ns mainGlobals mg) (hb:s₁.heap.Ns builtinsNs mb) (hbb:∀x:Str,x ≠ "__name__" -> mb x=bootBuiltins x) (hlim:s₁.heap.NoLimit) (hg:s₁.gens=#[])
  (ha:s₁.heap.get? a=some { cls:=.type "list",data:=.seq vs.toArray }) (hi:IntsAre vs ns) (hl:ns.length<=sizeLine) (hr:bP k callerA)
  (F:∀base:Heap,K.In base->base.Ns mainGlobals mg->ck P w K mg base CX k fa fd [x] sp) (hbind:∀(s:Shared) (u:Value),BindsTo s fd ⟨[u],[]⟩ [(x,u)])
  (hsp:∀H:Hp,OB H->SqL K H a (ns.map V.int)->sp [.ref a] H (fun v _=>v=.bl true) fun _ _ _=>False)
  (hCX:∀H e s',CX [] H s₁ (fun _ _ _=>False) e s'->False) :
  codeAny (model P w) callerA (.call (.ref fa) ⟨[.ref a],[]⟩) (fun r s'=>r=.ok (.ret (.bool true))/\OldK s₁.heap s'.heap/\s'.os=s₁.os/\AllBare s'.gens) s₁:=by
 have rv:=zb hi;have T8:=hi.length;have core:∀H:Hp,OB H->SqL K H a (ns.map V.int)->HOk P w H s₁.heap->(∀b,H b≠none->b=a)->(H a≠none->K.lookup a=none) ->
   codeAny (model P w) callerA (.call (.ref fa) ⟨[.ref a],[]⟩) (fun r s'=>r=.ok (.ret (.bool true))/\OldK s₁.heap s'.heap/\s'.os=s₁.os/\AllBare s'.gens) s₁:=by
  intro H hO hS hok hA hK;have Em:∀{b:Addr} {o:Obj},s₁.heap.get? b=some o->H b=none->(zU s₁.heap H).get? b=some o:=fun e n=>GC e n;have noA:∀{b:Addr} {o:Obj} {es:Array DictEntry} {ep:Nat},s₁.heap.get? b=some o->o.data=.dict es ep->H b=none:=fun {b o es ep} e d=>by
   cases q:H b with
   |none=>rfl
   |some u=>have e':b=a:=hA b (by rw[q];simp);subst e';rw[ha]at e;cases e;have d':Data.seq vs.toArray _=Data.dict es ep:=d;cases d'
  have nsK:∀{b:Addr} {m:Str->Option Value},s₁.heap.Ns b m->(zU s₁.heap H).Ns b m:=fun {b m} ⟨o,es,ep,e,d,r⟩=>⟨o,es,ep,Em e (noA e d),d,r⟩;have hKb:K.In (zU s₁.heap H):=fun b o e=>Em (KX b o e) (by
   cases q:H b with
   |none=>rfl
   |some u=>have e':b=a:=hA b (by rw[q];simp);subst e';rw[hK (by rw[q];simp)]at e;cases e)
  have hM:Mod K mg (zU s₁.heap H):=⟨hKb,nsK hns,⟨mb,nsK hb,hbb⟩,let ⟨mc,h1,h2⟩:=hlim;⟨mc,nsK h1,h2⟩⟩
  have e0:Ko P w K mg (zU s₁.heap H) callerA [] s₁ H:=⟨rfl,hM,fun b o e=>Ka e,Nat.le_of_eq (Fe _ _),trivial,fun b hb=>absurd (show b∈([]:List Addr) from hb) (by simp),hok,.of_eq hg⟩
  refine codeAny_mono ((F _ hKb (nsK hns)).run callerA [] s₁ H ⟨[.ref a],[]⟩ [.ref a] [.ref a] _ _ hr e0 (hbind s₁ (.ref a)) (.cons rfl .nil) (hsp H hO hS)) fun r s' h=>?_;cases r with
  |error e=>exact(hCX H e s' h).elim
  |ok fl=>
   cases fl with
   |next=>exact Vx h
   |brk=>exact Vx h
   |cont=>exact Vx h
   |ret u=>
    obtain⟨v,H',os,bare,un,T9,r',q⟩:=h;have q':v=.bl true:=q;subst q';obtain rfl:u=YT true:=r';refine⟨rfl,OldK.of_keep fun b o e=>?_,os,bare⟩;cases q:H b with
    |none=>exact un.keep b o e q (by intro z;exact absurd (show b∈([]:List Addr) from z) (by simp)) (by simp)
    |some u=>
     rcases hO b with z | ⟨ob,xs,z⟩
     ·rw[q]at z;cases z
     ·have z2:=un.vc b ob _ z;obtain⟨e1,_⟩:=hok b _ z;obtain⟨e2,_⟩:=T9 b _ z2;rw[e]at e1;cases e1;exact e2
 cases hk:K.lookup a with
 |some o=>have e:=KX a o hk;rw[ha]at e;cases e;refine core (fun _=>none) (fun _=>.inl rfl) (.inr ⟨_,vs.toArray,_,hk,rfl,rfl,rfl,by rw[Vo,T8];exact hl,by simpa using rv⟩) (fun b u z=>by have z':(none:Option HO)=some u:=z;cases z') (fun b z=>absurd rfl z) fun z=>absurd rfl z
 |none=>
  refine core (fun b=>if b=a then some (.frz { cls:=.type "list",data:=.seq vs.toArray } (.lst (ns.map V.int))) else none) (fun b=>?_) (.inl (.inr ⟨{ cls:=.type "list",data:=.seq vs.toArray },if_pos rfl⟩)) (fun b u z=>?_) (fun b z=>?_) fun _=>hk
  ·by_cases hb:b=a
   ·exact .inr ⟨_,_,if_pos hb⟩
   ·exact .inl (if_neg hb)
  ·by_cases hb:b=a
   ·have z':=(if_pos hb).symm.trans z;cases z';subst hb;exact⟨ha,by rw[Pa];exact hl,vs,_,rv,ha⟩
   ·have z':=(if_neg hb).symm.trans z;cases z'
  ·by_cases hb:b=a
   ·exact hb
   ·exact absurd (if_neg hb) z
theorem Ks{l:YG}{n k:Nat}{q:Program}{loose:List Str}{XP:(Str->Option Value)->Heap->Prop}{YP:World->Heap->Prop}{d:DefRec}{K:Params->Dk}{CX:World->CXT}{sp:World->Sp}{x:Str}
  (hn:l.most=some n) (hn2:n<=sizeLine) (hdf:d.params.defaults=[]) (hr:bP k callerA)
  (hY:∀(w:World) (h:Heap),YP w h->(K w.params).In h)
  (F:∀ (w:World) (mg:Str→Option Value) (fa:Addr) (h:Heap),(K w.params).In h→h.Ns mainGlobals mg→mg d.name=some (.ref fa) →
   ∃fd:FuncData,(∀(s:Shared) (u:Value),BindsTo s fd ⟨[u],[]⟩ [(x,u)]) /\
    ∀base:Heap,(K w.params).In base->base.Ns mainGlobals mg->ck l.prog w (K w.params) mg base (CX w) k fa fd [x] (sp w))
  (hsp:∀(w:World) (H:Hp) (a:Addr) (ns:List Int),ns.length<=n->OB H->SqL (K w.params) H a (ns.map V.int)->sp w [.ref a] H (fun v _=>v=.bl true) fun _ _ _=>False)
  (hCX:∀(w:World) (H:Hp) (s:Shared) (e:Value) (s':Shared),CX w [] H s (fun _ _ _=>False) e s'->False) :
  PySem.W.WalkO q loose XP YP l.row.toRowW d [] (fun f vs=>PySem.call f vs):=by
 refine Att.A7 hn hdf fun w s₀ s₁ mg mb fa o pm cd doc a vs ns G Y ho hd SK hmg hobj hints IY hg=>?_;have KX:=hY w _ Y;obtain⟨fd,hb,hF⟩:=F w mg fa _ KX G.T.g hmg;exact GZ KX G.T.g G.T.b G.T.builtins G.T.nolimit hg hobj hints (Nat.le_trans IY hn2) hr hF hb (fun H hO hS=>hsp w H a ns IY hO hS) fun H e s'=>hCX w H s₁ e s'
noncomputable def bV(s:Stmt):Arguments:=match s with
 |.FunctionDef _ a _ _ _ _ _ _ _ _=>a
 |_=>{ posonlyargs:=[],args:=[],vararg:=none,kwonlyargs:=[],kw_defaults:=[],kwarg:=none,defaults:=[] }
noncomputable def bH(s:Stmt):List Stmt:=match s with
 |.FunctionDef _ _ b _ _ _ _ _ _ _=>b
 |_=>[]
noncomputable def aF(s:Stmt):Scope:=match s with
 |.FunctionDef _ _ _ _ _ _ sc _ _ _=>sc
 |_=>{ kind:=.function,names:=[],isGenerator:=false,isCoroutine:=false }
noncomputable abbrev CX0:CXT:=fun _ _ _ _ _ _=>False
noncomputable abbrev E0:XK:=fun _ _ _=>False
theorem En{X:Cx}:Passes CX0 X E0:=fun _ _ _ _ _ _ _ h=>h.elim
structure Fun(K:Dk)(x qual:Str)(st:Stmt)(f:Addr)(fd:FuncData):Prop where
 ex:∃(oc:Value) (od:Option Addr) (kV doc pm:Value) (an:Option Addr) (cdv ct:Value) (osl:Array (Option Value)),
  fd=VZ x qual (bV st) (bH st) (aF st) .none kV doc pm an cdv ct/\K.lookup f=some ⟨oc,od,.func fd,osl⟩/\XI K cdv qual=true
 kp:Wc K (.ref f)=true
section
variable{P:Program}{w:World}{K:Dk}{mg:Str->Option Value}{base:Heap}
section
variable{x qual:Str}{st:Stmt}{fd:FuncData}{f:Addr}
theorem Fun.ok{N ps:List Str}{k:Nat}{sp:Sp}(F:Fun K x qual st f fd)(S:bg N ps (aF st))(len:∀vs H Q E,sp vs H Q E->vs.length=ps.length)
  (hbody:∀ (cdv:Value) (A:Around) (outer:List Env) (s:Shared) (H:Hp) (vs:List V) (Q:VK) (E:XK),bP k (A.deeper (envOfC qual (aF st) s.heap.objs.size f cdv))→sp vs H Q E →
   ∃t,PSs (lQ CX0 P w K mg base N qual (aF st) f cdv A outer s H E).nox (bH st) t/\t { nx:=fun _ H'=>Q .non H',rt:=Q } (start N vs) H):ck P w K mg base CX0 (k+1) f fd ps sp:=by
 obtain⟨oc,od,kV,doc,pm,an,cdv,ct,osl,rfl,lk,SK⟩:=F.ex;refine MR lk SK S len fun A outer s H vs Q E hr hsp=>?_;obtain⟨t,h,q⟩:=hbody cdv A outer s H vs Q E hr hsp;exact⟨t,h.nox,q⟩
theorem Fun.binds{ps:List Str}(F:Fun K x qual st f fd)
  (h:∀(kV doc pm:Value) (an:Option Addr) (cdv ct:Value) (us:List Value),us.length=ps.length->bindArgs (VZ x qual (bV st) (bH st) (aF st) .none kV doc pm an cdv ct) ⟨us,[]⟩=pure (ps.zip us)):Binds K fd ps []:=by
 obtain⟨oc,od,kV,doc,pm,an,cdv,ct,osl,rfl,lk,SK⟩:=F.ex;exact .all (h kV doc pm an cdv ct)
theorem G0{oc:Value}{od an:Option Addr}{osl:Array (Option Value)}{kV doc pm cdv ct:Value}(l:K.lookup f=some ⟨oc,od,.func (VZ x qual (bV st) (bH st) (aF st) .none kV doc pm an cdv ct),osl⟩)
  (c:XI K cdv qual=true) (k:Wc K (.ref f)=true):Fun K x qual st f (VZ x qual (bV st) (bH st) (aF st) .none kV doc pm an cdv ct):=⟨⟨oc,od,kV,doc,pm,an,cdv,ct,osl,rfl,l,c⟩,k⟩
end
end
def aJ(H H':Hp):Prop:=∀b o,H b=some o->H' b=some o
theorem aJ.refl(H:Hp):aJ H H:=fun _ _ h=>h
theorem aJ.trans{H H1 H2:Hp}(a:aJ H H1)(b:aJ H1 H2):aJ H H2:=fun c o h=>b c o (a c o h)
theorem aJ.free{H H':Hp}(e:aJ H H'){l:Addr}(h:H' l=Option.none):H l=Option.none:=by
 cases q:H l with
 |none=>rfl
 |some o=>rw[e l o q]at h;cases h
section
variable{κ:Type}[DecidableEq κ]
section
variable{u:Option Value}{o:Option V}{y:V}
noncomputable def lR(kvs:List (κ×V))(k:κ):Option V:=(kvs.find? fun kv=>decide (kv.1=k)).map (·.2)
noncomputable def putK(kvs:List (κ×V))(k:κ)(v:V):List (κ×V):=
 if (kvs.any fun kv=>decide (kv.1=k))=true then kvs.map (fun kv=>if kv.1=k then (kv.1,v) else kv) else kvs++[(k,v)]
noncomputable def rj(kvs:List (κ×V))(k:κ):List (κ×V):=kvs.filter fun kv=>decide (kv.1≠k)
theorem lX{p:κ×V}{r:List (κ×V)}{k:κ}(e:p.1=k):lR (p::r) k=some p.2:=by simp[lR,Wg,e]
theorem lY{p:κ×V}{r:List (κ×V)}{k:κ}(e:¬p.1=k):lR (p::r) k=lR r k:=by simp[lR,Wg,e]
theorem wQ(k:κ):∀kvs:List (κ×V),(kvs.any fun kv=>decide (kv.1=k))=(lR kvs k).isSome
 |[]=>rfl
 |p::r=>by
  rw[WD];by_cases e:p.1=k
  ·simp only[lX e,decide_eq_true e,Bool.true_or,Yc]
  ·rw[lY e,decide_eq_false e,Bool.false_or];exact wQ k r
theorem lZ(kvs:List (κ×V))(k:κ)(v:V):(putK kvs k v).length<=kvs.length+1:=by
 unfold putK;split
 ·rw[Pa];lia
 ·rw[Vn,VX,List.length_nil];lia
theorem qU.jn(r:qU o u):o.isSome=u.isSome:=by
 cases o with
 |none=>cases u with
  |none=>rfl
  |some _=>exact(show False from r).elim
 |some _=>cases u with
  |none=>exact(show False from r).elim
  |some _=>rfl
theorem qU.getD{d:V}{d':Value}(r:qU o u)(rd:RelV d d'):RelV (o.getD d) (u.getD d'):=by
 cases o with
 |none=>cases u with
  |none=>exact rd
  |some _=>exact(show False from r).elim
 |some _=>cases u with
  |none=>exact(show False from r).elim
  |some _=>exact r
theorem KV.val{kvs:List (κ×V)}{vs:List (κ×Value)}(r:KV kvs vs)(k:κ):qU (lR kvs k) (valueAt vs k):=by
 unfold KV at r
 induction r with
 |nil=>exact WU
 |@cons p q ps qs h t ih=>
  obtain⟨h1,h2⟩:=h;by_cases e:p.1=k
  ·have e':q.1=k:=h1.symm.trans e;have b:valueAt (q::qs) k=some q.2:=by simp[valueAt,Wg,e']
   rw[lX e,b];exact h2
  ·have e':¬q.1=k:=fun z=>e (h1.trans z);have b:valueAt (q::qs) k=valueAt qs k:=by simp[valueAt,Wg,e']
   rw[lY e,b];exact ih
theorem KV.any{kvs:List (κ×V)}{vs:List (κ×Value)}(r:KV kvs vs)(k:κ):(kvs.any fun kv=>decide (kv.1=k))=vs.any fun kv=>decide (kv.1=k):=by
 unfold KV at r
 induction r with
 |nil=>rfl
 |cons h t ih=>rw[WD,WD,ih,h.1]
theorem KV.repl{kvs:List (κ×V)}{vs:List (κ×Value)}(r:KV kvs vs)(k:κ){u:Value}(ry:RelV y u) :
  KV (kvs.map fun kv=>if kv.1=k then (kv.1,y) else kv) (vs.map fun kv=>if kv.1=k then (kv.1,u) else kv):=by
 unfold KV at r ⊢
 induction r with
 |nil=>exact .nil
 |@cons p q ps qs h t ih=>
  rw[gV,gV];refine .cons ?_ ih;obtain⟨h1,h2⟩:=h;by_cases e:p.1=k
  ·rw[if_pos e,if_pos (h1.symm.trans e)];exact⟨h1,ry⟩
  ·rw[if_neg e,if_neg (fun z=>e (h1.trans z))];exact⟨h1,h2⟩
theorem KV.put{kvs:List (κ×V)}{vs:List (κ×Value)}(r:KV kvs vs)(k:κ){u:Value}(ry:RelV y u):KV (putK kvs k y) (stored vs k u):=by
 unfold putK stored;rw[r.any k];by_cases e:(vs.any fun kv=>decide (kv.1=k))=true
 ·rw[if_pos e,if_pos e];exact r.repl k ry
 ·rw[if_neg e,if_neg e];exact Paired.snoc r ⟨rfl,ry⟩
theorem KV.length{kvs:List (κ×V)}{vs:List (κ×Value)}(r:KV kvs vs):kvs.length=vs.length:=Paired.length r
theorem G1(kvs:List (κ×V))(k:κ):(rj kvs k).length<=kvs.length:=Xo _ _
end
end
section
variable{xs:List (List Key×Addr×Value)}{kvs:List (List Key×V)}{u:Value}{P:Program}{w:World}{H:Hp}{y:V}
theorem wR{k:Key}(r:RelV (kV k) u):(aV P w).is k u=true:=by
 cases k with
 |inl i=>obtain⟨t,e⟩:=(show ∃t,u=XW i t from r);subst e;exact AS P w i t
 |inr x=>obtain⟨t,e⟩:=(show ∃t,u=XC x t from r);subst e;exact AU P w x t
theorem zc:∀{ks:List Key} {us:List Value},Vals (ks.map kV) us->ItemsAre (aV P w) ks us
 |[],_,r=>by rw[XG]at r;cases r;exact .nil
 |k::ks,_,r=>by
  rw[gV]at r;cases r with
  |cons h t=>exact .cons (wR h) (zc t)
noncomputable abbrev KT(H:Hp):List (List Key×V)->List (List Key×Addr×Value)->Prop:=Paired fun p q=>p.1=q.1/\H q.2.1=some (.tup (p.1.map kV))/\RelV p.2 q.2.2
theorem KT.val(r:KT H kvs xs)(k:List Key):qU (lR kvs k) ((atKey xs k).map (·.2)):=by
 induction r with
 |nil=>exact WU
 |@cons p q ps qs h t ih=>
  obtain⟨h1,_,h2⟩:=h;by_cases e:p.1=k
  ·have e':q.1=k:=h1.symm.trans e;have b:atKey (q::qs) k=some q.2:=by simp[atKey,Wg,e']
   rw[lX e,b];exact h2
  ·have e':¬q.1=k:=fun z=>e (h1.trans z);have b:atKey (q::qs) k=atKey qs k:=by simp[atKey,Wg,e']
   rw[lY e,b];exact ih
theorem KT.repl(r:KT H kvs xs)(k:List Key)(ry:RelV y u) :
  KT H (kvs.map fun kv=>if kv.1=k then (kv.1,y) else kv) (xs.map (putAt k u)):=by
 induction r with
 |nil=>exact .nil
 |@cons p q ps qs h t ih=>
  rw[gV,gV];refine .cons ?_ ih;obtain⟨h1,h2,h3⟩:=h;unfold putAt;by_cases e:p.1=k
  ·rw[if_pos e,if_pos (h1.symm.trans e)];exact⟨h1,h2,ry⟩
  ·rw[if_neg e,if_neg (fun z=>e (h1.trans z))];exact⟨h1,h2,h3⟩
theorem KT.put(r:KT H kvs xs)(k:List Key){b:Addr}(hb:H b=some (.tup (k.map kV)))(ry:RelV y u) :
  KT H (putK kvs k y) (storedH xs k b u):=by
 have e:(kvs.any fun kv=>decide (kv.1=k))=(atKey xs k).isSome:=by rw[wQ,(r.val k).jn,WK]
 unfold putK storedH;rw[e];by_cases q:(atKey xs k).isSome=true
 ·rw[if_pos q,if_pos q];exact r.repl k ry
 ·rw[if_neg q,if_neg q];exact Paired.snoc r ⟨rfl,hb,ry⟩
theorem KT.keeps{H H':Hp}(r:KT H kvs xs)(ht:∀b ys,H b=some (.tup ys)->H' b=some (.tup ys)):KT H' kvs xs:=
 Paired.NR r fun _ _ z=>⟨z.1,ht _ _ z.2.1,z.2.2⟩
end
section
variable{P:Program}{w:World}{H:Hp}{h:Heap}{a:Addr}
section
variable{kvs:List (List Key×V)}{ts:List Addr}
theorem MU{u:HO}(ok:HOk P w H h)(e:Rd H a u):bC P w H h a u:=e.ok ok
theorem wU{kvs:List (Key×V)}(ok:HOk P w H h)(e:Rd H a (.dK kvs)):kvs.length<=sizeLine/\(a == sysModules)=false/\∃vs,KV kvs vs/\h.DictOf (aV P w) a vs:=
 show bC P w H h a (.dK kvs) from MU ok e
theorem G3{kvs:List (Key×V)}(ok:HOk P w H h)(e:H a=some (.dK kvs)):kvs.length<=sizeLine/\(a == sysModules)=false/\∃vs,KV kvs vs/\h.DictOf (aV P w) a vs:=wU ok (.inl e)
theorem o8{ks:List Key}(ok:HOk P w H h)(e:H a=some (.tup (ks.map kV))):(tupleKind (aV P w)).is h ks a:=by
 obtain⟨_,its,r,o,h1,h2,n,h3⟩:=(show bC P w H h a (.tup (ks.map kV)) from ok a _ e)
 exact⟨o,its.toArray,n,h1,h2,h3,by simpa using zc r⟩
theorem wV(ok:HOk P w H h)(e:Rd H a (.dT kvs ts)):kvs.length<=sizeLine/\(a == sysModules)=false /\
  ∃xs,KT H kvs xs/\h.DictOfH (tupleKind (aV P w)) a xs:=by
 obtain⟨z,y,xs,r,o,es,ep,h1,h2,h3,h4,h5,_⟩:=(show bC P w H h a (.dT kvs ts) from MU ok e)
 refine⟨z,y,xs,r,o,es,ep,h1,h2,h3,h4,fun x hx=>?_,h5⟩;have all:∀{l:List (List Key×V)} {m:List (List Key×Addr×Value)},KT H l m->∀x∈m,(tupleKind (aV P w)).is h x.1 x.2.1:=by
  intro l m q
  induction q with
  |nil=>intro x hx;exact nomatch hx
  |@cons p q ps qs hq t ih=>
   intro x hx;rcases Vq.mp hx with e | hx
   ·subst e;exact o8 ok (by rw[<- hq.1];exact hq.2.1)
   ·exact ih x hx
 exact all r x hx
theorem G4(ok:HOk P w H h)(e:H a=some (.dT kvs ts)):kvs.length<=sizeLine/\(a == sysModules)=false /\
  ∃xs,KT H kvs xs/\h.DictOfH (tupleKind (aV P w)) a xs:=wV ok (.inl e)
end
end
section
variable{kvs:List (List Key×V)}{H:Hp}{ts:List Addr}{a:Addr}
noncomputable def CW(kvs:List (List Key×V))(ts:List Addr)(k:List Key)(b:Addr):List Addr:=if (kvs.any fun kv=>decide (kv.1=k))=true then ts else ts++[b]
theorem A8{xs:List (List Key×Addr×Value)}(r:KT H kvs xs)(k:List Key)(b:Addr)(u:Value):(storedH xs k b u).map (·.2.1)=CW kvs (xs.map (·.2.1)) k b:=by
 have e:(kvs.any fun kv=>decide (kv.1=k))=(atKey xs k).isSome:=by rw[wQ,(r.val k).jn,WK]
 unfold storedH CW;rw[e];by_cases q:(atKey xs k).isSome=true
 ·rw[if_pos q,if_pos q,V0];refine Xh fun x _=>?_;show (putAt k u x).2.1=x.2.1;unfold putAt;split<;>rfl
 ·rw[if_neg q,if_neg q,Vy];rfl
theorem CY{P:Program}{w:World}{h:Heap}{xs xs2:List (List Key×Addr×Value)}{ts:List Addr}{o:Obj}{es:Array DictEntry}{ep:Nat}(d:h.DictOfH (tupleKind (aV P w)) a xs)(g1:h.get? a=some o)(g3:o.data=.dict es ep)
  (g4:es.toList=xs2.map (entryOfKey (tupleKind (aV P w)))) (g6:xs2.map (·.2.1)=ts):xs.map (·.2.1)=ts:=by
 obtain⟨o1,es1,ep1,h1,h2,h3,h4,_⟩:=d;rw[g1]at h1;cases h1;rw[g3]at h3;cases h3;rw[g4]at h4;have key:∀l:List (List Key×Addr×Value),(l.map (entryOfKey (tupleKind (aV P w)))).map (·.key)=(l.map (·.2.1)).map VF:=fun l=>by rw[V0,V0];rfl
 have:=congrArg (List.map (·.key)) h4;rw[key,key,g6]at this;exact(Yd (fun a b e=>VF.inj e)).mp this.symm
def jh(H:Hp)(a:Addr)(y:V)(r:Option V):Prop:=
 (∃kvs k,Rd H a (.dK kvs)/\y=kV k/\r=lR kvs k)\/∃kvs k b ts,Rd H a (.dT kvs ts)/\y=.ref b/\H b=some (.tup (k.map kV))/\r=lR kvs k
def A9(H:Hp)(a:Addr)(y v:V)(H':Hp):Prop:=
 (∃kvs k,H a=some (.dK kvs)/\y=kV k/\kvs.length<sizeLine/\H'=upd H a (.dK (putK kvs k v))) \/
 ∃kvs k b ts,H a=some (.dT kvs ts)/\y=.ref b/\H b=some (.tup (k.map kV))/\kvs.length<sizeLine/\H'=upd H a (.dT (putK kvs k v) (CW kvs ts k b))
theorem jh.k{kvs:List (Key×V)}{k:Key}(e:H a=some (.dK kvs)):jh H a (kV k) (lR kvs k):=.inl ⟨kvs,k,.inl e,rfl,rfl⟩
theorem jh.t{a b:Addr}{k:List Key}(e:H a=some (.dT kvs ts))(eb:H b=some (.tup (k.map kV))):jh H a (.ref b) (lR kvs k):=.inr ⟨kvs,k,b,ts,.inl e,rfl,eb,rfl⟩
theorem A9.k{kvs:List (Key×V)}{k:Key}{v:V}(e:H a=some (.dK kvs))(hl:kvs.length<sizeLine):A9 H a (kV k) v (upd H a (.dK (putK kvs k v))):=.inl ⟨kvs,k,e,rfl,hl,rfl⟩
theorem A9.t{a b:Addr}{k:List Key}{v:V}(e:H a=some (.dT kvs ts))(eb:H b=some (.tup (k.map kV)))(hl:kvs.length<sizeLine) :
  A9 H a (.ref b) v (upd H a (.dT (putK kvs k v) (CW kvs ts k b))):=.inr ⟨kvs,k,b,ts,e,rfl,eb,hl,rfl⟩
end
section
variable{X:Cx}{Dz:List (Addr×Obj)}{σ:St}{H:Hp}{s:Shared}{a:Addr}{y v:V}{u r:Value}{o:Option V}{A:Around}{E:Value->Shared->Prop}
section
variable{Q:Value->Shared->Prop}{h':Heap}
theorem Inv.big(I:Inv X Dz σ H s):sysModules<s.heap.objs.size:=by have h:mainGlobals<s.heap.objs.size:=(I.mod.glob.keeps I.bk).lt;exact YN (by decide) h
theorem FA(hu:A.units+1<cLine)(I:Inv X Dz σ H s)(g:jh H a y (some v))(ry:RelV y u)(h:∀w' s',Inv X Dz σ H s'->RelV v w'->Q w' s') :
  wpAny (model X.prog X.w) A (getItem (.ref a) u) Q E s:=by
 rcases g with⟨kvs,k,e,ey,l⟩ | ⟨kvs,k,b,ts,e,ey,eb,l⟩
 ·subst ey;obtain⟨z,hd,vs,rel,dd⟩:=wU I.hok e;obtain⟨w',hw,rw'⟩:=qU.some_of (v:=v) (o:=valueAt vs k) (by rw[l];exact rel.val k);exact wpAny_getItem_of (wR ry) dd.mapOf hw (h w' _ (I.tok _) rw')
 ·subst ey;cases (show u=VF b from ry);obtain⟨z,hd,xs,rel,dd⟩:=wV I.hok e;obtain⟨w',hw,rw'⟩:=qU.some_of (v:=v) (o:=(atKey xs k).map (·.2)) (by rw[l];exact rel.val k);obtain⟨p,hp,hp2⟩:=Option.map_eq_some_iff.mp hw;refine wpAny_getItem_heap (tupleKind_room_in1 hu) (o8 I.hok eb) dd hp ?_;rw[hp2];exact h w' _ (I.tok _) rw'
theorem T_(hu:A.units+1<cLine)(I:Inv X Dz σ H s)(g:jh H a y o)(ry:RelV y u)(h:∀s',Inv X Dz σ H s'->Q (.bool o.isSome) s') :
  wpAny (model X.prog X.w) A (compareOp .In u (.ref a)) Q E s:=by
 rcases g with⟨kvs,k,e,ey,l⟩ | ⟨kvs,k,b,ts,e,ey,eb,l⟩
 ·subst ey;obtain⟨z,hd,vs,rel,dd⟩:=wU I.hok e;refine wpAny_in_of (wR ry) hd dd.mapOf ?_;rw[<- (rel.val k).jn,<- l];exact h _ (I.tok _)
 ·subst ey;cases (show u=VF b from ry);obtain⟨z,hd,xs,rel,dd⟩:=wV I.hok e;refine wpAny_in_heap (tupleKind_room_in1 hu) (o8 I.hok eb) hd dd ?_;have q:=(rel.val k).jn;rw[WK]at q;rw[<- q,<- l];exact h _ (I.tok _)
theorem Ku(hu:A.units+1<cLine)(I:Inv X Dz σ H s)(g:jh H a y o)(ry:RelV y u)(h:∀s',Inv X Dz σ H s'->Q (.bool (!o.isSome)) s') :
  wpAny (model X.prog X.w) A (compareOp .NotIn u (.ref a)) Q E s:=by
 rcases g with⟨kvs,k,e,ey,l⟩ | ⟨kvs,k,b,ts,e,ey,eb,l⟩
 ·subst ey;obtain⟨z,hd,vs,rel,dd⟩:=wU I.hok e;refine wpAny_notIn_of (wR ry) hd dd.mapOf ?_;rw[<- (rel.val k).jn,<- l];exact h _ (I.tok _)
 ·subst ey;cases (show u=VF b from ry);obtain⟨z,hd,xs,rel,dd⟩:=wV I.hok e;refine wpAny_notIn_heap (tupleKind_room_in1 hu) (o8 I.hok eb) hd dd ?_;have q:=(rel.val k).jn;rw[WK]at q;rw[<- q,<- l];exact h _ (I.tok _)
theorem v9{t':Nat}{ob:HO}(I:Inv X Dz σ H s)(mu:Mut (H a))(hs:WS a s.heap h')(he:∃q,h'.get? a=some q)(new:bC X.prog X.w (upd H a ob) h' a ob) :
  Inv X Dz σ (upd H a ob) { s with heap:=h',toks:=t' }:=
 I.write (x:=a) (e:=a) mu (.inl rfl) (fun b q hb z=>(hs.2 b hb).trans z) he new
theorem G5{P:Program}{w:World}{H':Hp}{kvs:List (Key×V)}{vs:List (Key×Value)}(z:kvs.length<=sizeLine)(hd:(a == sysModules)=false)(rel:KV kvs vs)(dd:h'.DictOf (aV P w) a vs) :
  bC P w H' h' a (.dK kvs):=⟨z,hd,vs,rel,dd⟩
theorem FD{H':Hp}{Q:Unit->Shared->Prop}(hu:A.units+1<cLine)(I:Inv X Dz σ H s)(g:A9 H a y v H')(ry:RelV y u)(rv:RelV v r)(h:∀s',Inv X Dz σ H' s'->Q () s') :
  wpAny (model X.prog X.w) A (setItem (.ref a) u r) Q E s:=by
 rcases g with⟨kvs,k,e,ey,l,eH⟩ | ⟨kvs,k,b,ts,e,ey,eb,l,eH⟩
 ·subst ey eH;obtain⟨z,hd,vs,rel,dd⟩:=G3 I.hok e;have hz:vs.length<=sizeLine:=by rw[<- rel.length];exact z
  have hl:(putK kvs k v).length<=sizeLine:=by have:=lZ kvs k v;lia
  refine wpAny_setItem_pairs (hsz:=hz) (wR ry) dd fun h' dd' hs=>h _ ?_;have he:∃q,h'.get? a=some q:=let ⟨q,_,_,hq,_⟩:=dd';⟨q,hq⟩
  exact v9 I (by rw[e];exact WU) hs he (G5 hl hd (rel.put k rv) dd')
 ·subst ey eH;cases (show u=VF b from ry);obtain⟨z,hd,xs,rel,dd⟩:=G4 I.hok e;have hz:xs.length<=sizeLine:=by rw[<- Paired.length rel];exact z
  have hl:(putK kvs k v).length<=sizeLine:=by have:=lZ kvs k v;lia
  refine wpAny_setItem_heap (hsz:=hz) (tupleKind_room_in1 hu) (o8 I.hok eb) dd fun h' dd' hs=>h _ ?_;obtain⟨q,es,ep,hq,h2,h3,h4,_,h5⟩:=dd';refine v9 I (by rw[e];exact WU) hs ⟨q,hq⟩ ⟨hl,hd,_,(rel.put k eb rv).keeps fun c ys ec=>?_,q,es,ep,hq,h2,h3,h4,h5,?_⟩
  ·rw[aH (MF ec e (fun z=>nomatch z))];exact ec
  ·have hts:xs.map (·.2.1)=ts:=by
    obtain⟨_,_,xs2,_,o2,es2,ep2,g1,g2,g3,g4,g5,g6⟩:=(show bC X.prog X.w H s.heap a (.dT kvs ts) from I.hok a _ e)
    exact CY dd g1 g3 g4 g6
   rw[<- hts];exact A8 rel k b r
end
end
def Kv(i:Expr):Prop:=∀ov iv,subscripted i false ov iv=operate [ov,iv] (getItem ov iv)
theorem Kw{prog:Program}{w:World}{A:Around}{E:Value->Shared->Prop}{s:Shared}{env:Env}{value slice:Expr}{pos:Pos}{T id:String}{Q:Value->Shared->Prop}
  (hl:typeLookup (.type T) "__getitem__" = pure (some (.builtin id))) (hs:Kv slice)
  (h:wpAny (model prog w) A (eval value env) (fun o s₁=>wpAny (model prog w) A (eval slice env) (fun i s₂=>s₂.TypeIs o T/\wpAny (model prog w) A (getItem o i) Q E s₂) E s₁) E s) :
  wpAny (model prog w) A (eval (.Subscript value slice pos) env) Q E s:=by
 refine Subscript_ (wpAny_mono h (fun o s₁ h₁=>wpAny_mono h₁ (fun i s₂ h₂=>?_) fun _ _ x=>x) fun _ _ x=>x);obtain⟨hT,h₂⟩:=h₂;unfold subscriptTail;refine wpAny_bind ?_;rw[getitemInPython_of_ne hT.not_modules];refine wpAny_bind (wpAny_specialOf hT hl ?_);have Qi:wpAny (model prog w) A (subscripted slice false o i) (fun r s₃=>wpAny (model prog w) A (letTemporaryGo value o r >>= fun _=>pure r) Q E s₃) E s₂:=by rw[hs o i];exact wpAny_operating (wpAny_mono h₂ (fun r s₃ h₃=>wpAny_bind (wpAny_letTemporaryGo (wpAny_pure h₃))) fun _ _ x=>x)
 first
  |exact wpAny_pure (wpAny_bind Qi)
  |exact wpAny_bind (wpAny_pure (wpAny_bind Qi))
  |exact wpAny_bind Qi
theorem A_{X:Cx}{Dz:List (Addr×Obj)}{σ:St}{H:Hp}{s:Shared}{a:Addr}{y:V}{o:Option V}(I:Inv X Dz σ H s)(g:jh H a y o):s.TypeIs (.ref a) "dict" := by
 rcases g with⟨kvs,k,e,_,_⟩ | ⟨kvs,k,b,ts,e,_,_,_⟩
 ·obtain⟨_,_,vs,_,dd⟩:=wU I.hok e;exact dd.typeIs
 ·obtain⟨_,_,xs,_,dd⟩:=wV I.hok e;exact dd.typeIs
def Rh(td ty:TE):TE:=fun σ H Q=>td σ H fun x H1=>ty σ H1 fun y H2=>∃a v,x=.ref a/\jh H2 a y (some v)/\Q v H2
def Ua(ty td:TE):TE:=fun σ H Q=>ty σ H fun y H1=>td σ H1 fun x H2=>∃a o,x=.ref a/\jh H2 a y o/\Q (.bl o.isSome) H2
def Ky(ty td:TE):TE:=fun σ H Q=>ty σ H fun y H1=>td σ H1 fun x H2=>∃a o,x=.ref a/\jh H2 a y o/\Q (.bl (!o.isSome)) H2
def G6(td ty tv:TE):TS:=fun D σ H=>tv σ H fun v H1=>td σ H1 fun x H2=>ty σ H2 fun y H3=>∃a H4,x=.ref a/\A9 H3 a y v H4/\D.nx σ H4
section
variable{X:Cx}{o i e value:Expr}{pos pos' tpos:Pos}{td ty tv:TE}
theorem Eo(hu:X.A.units+1<cLine)(ho:PE X o td)(hi:PE X i ty)(hs:Kv i):PE X (.Subscript o i pos) (Rh td ty):=by intro Dz s σ H Q I h;refine Kw PySem.F.slot_dict_getitem.lookup hs (thn (ho Dz s σ H _ I h) fun u s1 ⟨x,H1,I1,rx,q1⟩=>thn (hi Dz s1 σ H1 _ I1 q1) fun iv s2 ⟨y,H2,I2,ry,a,v,ex,g,q2⟩=>?_);subst ex;obtain rfl:u=VF a:=rx;exact⟨A_ I2 g,FA hu I2 g ry fun w' s3 I3 rw'=>⟨v,H2,I3,rw',q2⟩⟩
theorem G7(hu:X.A.units+1<cLine)(hi:PE X i ty)(ho:PE X o td):PC X .In i o (Ua ty td):=by intro Dz s σ H Q I h;refine thn (hi Dz s σ H _ I h) fun iv s1 ⟨y,H1,I1,ry,q1⟩=>thn (ho Dz s1 σ H1 _ I1 q1) fun u s2 ⟨x,H2,I2,rx,a,ov,ex,g,q2⟩=>?_;subst ex;obtain rfl:u=VF a:=rx;exact T_ hu I2 g ry fun s3 I3=>⟨.bl ov.isSome,H2,I3,rfl,q2⟩
theorem FF(hu:X.A.units+1<cLine)(hi:PE X i ty)(ho:PE X o td):PC X .NotIn i o (Ky ty td):=by intro Dz s σ H Q I h;refine thn (hi Dz s σ H _ I h) fun iv s1 ⟨y,H1,I1,ry,q1⟩=>thn (ho Dz s1 σ H1 _ I1 q1) fun u s2 ⟨x,H2,I2,rx,a,ov,ex,g,q2⟩=>?_;subst ex;obtain rfl:u=VF a:=rx;exact Ku hu I2 g ry fun s3 I3=>⟨.bl (!ov.isSome),H2,I3,rfl,q2⟩
theorem Ep(hu:X.A.units+1<cLine)(ho:PE X o td)(hi:PE X i ty)(hv:PE X value tv)(hs:swapsWith value (some (.Subscript o i pos')) pos.line X.env=pure false) :
  PS X (.Assign [.Subscript o i pos'] value pos) (G6 td ty tv):=by
 intro Dz s σ H D I h;refine wpAny_Assign_Subscript (thn (hv Dz s σ H _ I h) fun r s1 ⟨v,H1,I1,rv,q1⟩=>thn (ho Dz s1 σ H1 _ I1 q1) fun u s2 ⟨x,H2,I2,rx,q2⟩=>thn (hi Dz s2 σ H2 _ I2 q2) fun iv s3 ⟨y,H3,I3,ry,a,H4,ex,g,q3⟩=>?_) hs;subst ex;obtain rfl:u=VF a:=rx;exact FD hu I3 g ry rv fun s4 I4=>⟨σ,H4,I4,q3⟩
end
section
variable{P:Program}{w:World}{H:Hp}
theorem G8(h:Heap)(hb:sysModules<h.objs.size):bC P w H (h.push { cls:=.type "dict",data:=.dict #[] }) h.objs.size (.dK []):=
 ⟨VN _,beq_eq_false_iff_ne.mpr (VS (VC hb)),[],.nil,Heap.DictOf.new h⟩
theorem G9(h:Heap)(hb:sysModules<h.objs.size):bC P w H (h.push { cls:=.type "dict",data:=.dict #[] }) h.objs.size (.dT [] []):=
 ⟨VN _,beq_eq_false_iff_ne.mpr (VS (VC hb)),[],.nil,_,#[],0,VY _ rfl,⟨rfl,rfl,rfl⟩,rfl,rfl,List.nodup_nil,rfl⟩
def G_:TE:=fun _ H Q=>∀p,H p=none->Q (.ref p) (upd H p (.dT [] []))
end
section
variable{X:Cx}{pos:Pos}
theorem Hg:PE X (.Dict [] [] pos) G_:=fun Dz s σ H Q I h=>wpAny_Dict_empty ⟨.ref s.heap.objs.size,_,I.laid (a:=s.heap.objs.size) (o:=.dT [] []) (t':=s.toks) (fun _ _ q=>Vp _ q) (Nat.le_refl _) (G9 s.heap I.big),rfl,h _ (I.hok.fresh (Nat.le_refl _))⟩
end
section
variable{trs:List (TE×TE)}{pos:Pos}{X:Cx}
def CZ:List (TE×TE)->St->Hp->(List (V×V)->Hp->Prop)->Prop
 |[],_,H,Q=>Q [] H
 |(tk,tv)::r,σ,H,Q=>tk σ H fun x H1=>tv σ H1 fun y H2=>CZ r σ H2 fun ps H3=>Q ((x,y)::ps) H3
noncomputable abbrev VV:List (V×V)->List (Value×Value)->Prop:=Paired fun p q=>RelV p.1 q.1/\RelV p.2 q.2
def PPs(X:Cx)(pos:Pos)(keys:List (Option Expr))(values:List Expr)(trs:List (TE×TE)):Prop:=
 ∀(Dz:List (Addr×Obj)) (s:Shared) (σ:St) (H:Hp) (Q:List (V×V)->Hp->Prop),Inv X Dz σ H s->CZ trs σ H Q ->
  wpAny (model X.prog X.w) X.A (evalPairs (pairTrees keys values X.env pos)) (fun vs s'=>∃ps H',Inv X Dz σ H' s'/\VV ps vs/\Q ps H') X.xe s
theorem Kz:PPs X pos [] [] []:=fun Dz s σ H Q I h=>pairTrees_nil_walk ⟨[],H,I,.nil,h⟩
theorem Hh{k v:Expr}{ks:List (Option Expr)}{vs:List Expr}{tk tv:TE}(hk:PE X k tk)(hv:PE X v tv)(hr:PPs X pos ks vs trs) :
  PPs X pos (some k::ks) (v::vs) ((tk,tv)::trs):=fun Dz s σ H Q I h=>
 pairTrees_cons_walk (thn (hk Dz s σ H _ I h) fun u s1 ⟨x,H1,I1,rx,q1⟩=>thn (hv Dz s1 σ H1 _ I1 q1) fun w2 s2 ⟨y,H2,I2,ry,q2⟩=>thn (hr Dz s2 σ H2 _ I2 q2) fun ws s3 ⟨ps,H3,I3,rel,q3⟩=>⟨(x,y)::ps,H3,I3,.cons ⟨rx,ry⟩ rel,q3⟩)
noncomputable def sZ(kvs more:List (Key×V)):List (Key×V):=more.foldl (fun Qa kv=>putK Qa kv.1 kv.2) kvs
theorem KV.merge:∀{more:List (Key×V)} {rs:List (Key×Value)} {kvs:List (Key×V)} {vs:List (Key×Value)},KV more rs->KV kvs vs->KV (sZ kvs more) (merged vs rs):=by
 intro more rs kvs vs r;unfold KV at r
 induction r generalizing kvs vs with
 |nil=>intro q;exact q
 |@cons p q ps qs h t ih=>
  intro r0;have e:KV (putK kvs p.1 p.2) (stored vs q.1 q.2):=by have:=r0.put p.1 h.2;rw[<- h.1];exact this
  exact ih e
theorem oY:∀(more kvs:List (Key×V)),(sZ kvs more).length<=kvs.length+more.length
 |[],kvs=>by show kvs.length<=kvs.length+0;lia
 |p::r,kvs=>by have h1:=oY r (putK kvs p.1 p.2);have h2:=lZ kvs p.1 p.2;show (sZ (putK kvs p.1 p.2) r).length<=_;rw[VX];lia
theorem wW{P:Program}{w:World}:∀{kvs:List (Key×V)} {ws:List (Value×Value)},VV (kvs.map fun kv=>(kV kv.1,kv.2)) ws->∃rs,Carries (aV P w) ws rs/\KV kvs rs
 |[],_,r=>by rw[XG]at r;cases r;exact⟨[],WU,.nil⟩
 |p::kvs,_,r=>by
  rw[gV]at r;cases r with
  |@cons a b as bs h t=>obtain⟨rs,c,q⟩:=wW (P:=P) (w:=w) t;obtain⟨b1,b2⟩:=b;exact⟨(p.1,b2)::rs,⟨wR h.1,rfl,c⟩,.cons ⟨rfl,h.2⟩ q⟩
def MV(trs:List (TE×TE)):TE:=fun σ H Q=>∀p,H p=none->CZ trs σ (upd H p (.dK [])) fun ps H2=>H2 p=some (.dK [])/\∃kvs:List (Key×V),ps=kvs.map (fun kv=>(kV kv.1,kv.2))/\kvs.length<=15/\Q (.ref p) (upd H2 p (.dK (sZ [] kvs)))
theorem KA{keys:List (Option Expr)}{values:List Expr}(h:PPs X pos keys values trs)(hall:keys.all (·.isSome)=true)(hl:keys.length=values.length)(h0:keys≠[])
  (h15:keys.length<=15):PE X (.Dict keys values pos) (MV trs):=by
 intro Dz s σ H Q I q;have hn:=I.hok.fresh (Nat.le_refl s.heap.objs.size);have I1:=I.laid (a:=s.heap.objs.size) (o:=.dK []) (h':=s.heap.push { cls:=.type "dict",data:=.dict #[] }) (t':=s.toks) (fun _ _ q=>Vp _ q) (Nat.le_refl _) (G8 s.heap I.big);refine wpAny_Dict_walk (knd:=aV X.prog X.w) hall hl h0 h15 (thn (h Dz _ σ _ _ I1 (q _ hn)) fun ws s2 ⟨ps,H2,I2,rel,e,kvs,ep,lk,q2⟩=>?_);subst ep;obtain⟨rs,c,rk⟩:=wW (P:=X.prog) (w:=X.w) rel;obtain⟨z,hd,vs0,r0,dd⟩:=G3 I2.hok e;cases r0;refine⟨rs,c,dd,fun h' dd' hs=>⟨.ref s.heap.objs.size,_,?_,rfl,q2⟩⟩;have hz:(sZ [] kvs).length<=sizeLine:=by have h1:=oY kvs [];rw[List.length_nil]at h1;rw[sizeLine_eq];lia
 have he:∃q,h'.get? s.heap.objs.size=some q:=let ⟨q,_,_,hq,_⟩:=dd';⟨q,hq⟩
 exact v9 I2 (by rw[e];exact WU) hs he (G5 hz hd (rk.merge .nil) dd')
structure M1(X:Cx)(o:Expr)(m:Str)(SM:Pos)(e:Expr)(cpos:Pos):Prop where
 base:attributeBase o m X.env (eval o X.env)=eval o X.env
 few:((backTo cpos (starEach [e] X.env)).all (fun x=>!x.1)&&(backToKw cpos (keywordEach [] X.env)).all (fun x=>x.1.isSome)
  && decide (([e]:List Expr).length+([]:List Keyword).length+(if ([]:List Keyword).isEmpty then 0 else 1)<30))=true
 line:(SM.endLine == cpos.line)=true
 trees:backTo cpos (starEach [e] X.env)=[(false,eval e X.env)]
def IsD(H:Hp)(a:Addr):Prop:=(∃kvs,Rd H a (.dK kvs))\/∃kvs ts,Rd H a (.dT kvs ts)
theorem Hi{Dz:List (Addr×Obj)}{σ:St}{H:Hp}{s:Shared}{a:Addr}(I:Inv X Dz σ H s)(d:IsD H a) :
  s.TypeIs (.ref a) "dict" /\ (∀b,VF a=.ref b->∃ob,s.heap.get? b=some ob/\ob.dict=none)/\(a == sysModules)=false:=by
 rcases d with⟨kvs,e⟩ | ⟨kvs,ts,e⟩
 ·obtain⟨_,hd,vs,_,dd⟩:=wU I.hok e;refine⟨dd.typeIs,fun b q=>?_,hd⟩;cases q;obtain⟨ob,_,_,h1,h2,_⟩:=dd;exact⟨ob,h1,h2.2.1⟩
 ·obtain⟨_,hd,xs,_,dd⟩:=wV I.hok e;refine⟨dd.typeIs,fun b q=>?_,hd⟩;cases q;obtain⟨ob,_,_,h1,h2,_⟩:=dd;exact⟨ob,h1,h2.2.1⟩
end
section
variable{X:Cx}{Dz:List (Addr×Obj)}{σ:St}{H:Hp}{s:Shared}{a:Addr}{y d:V}{u r:Value}{o:Option V}{A:Around}{E:Value->Shared->Prop}
theorem OC{Q:Value->Shared->Prop}(hu:A.units+1<cLine)(I:Inv X Dz σ H s)(g:jh H a y o)(ry:RelV y u)(h:∀w' s',Inv X Dz σ H s'->RelV (o.getD .non) w'->Q w' s') :
  wpAny (model X.prog X.w) A (call (.builtin "dict.get") [.ref a,u]) Q E s:=by
 rcases g with⟨kvs,k,e,ey,l⟩ | ⟨kvs,k,b,ts,e,ey,eb,l⟩
 ·subst ey;obtain⟨z,hd,vs,rel,dd⟩:=wU I.hok e;refine call_meetsIn XX dd.typeIs PySem.F.entry_dict_get (PySem.F.args_dict_get_2 _ _) (meets_dict_get (aV X.prog X.w) a (wR ry) hd) ⟨_,dd.mapOf,h _ _ (I.tok _) ?_⟩;rw[l];exact(rel.val k).getD rfl
 ·subst ey;cases (show u=VF b from ry);obtain⟨z,hd,xs,rel,dd⟩:=wV I.hok e;refine call_meetsIn XX dd.typeIs PySem.F.entry_dict_get (PySem.F.args_dict_get_2 _ _) (meetsH_dict_get (tupleKind (aV X.prog X.w)) a b hd) ⟨tupleKind_room_in1 hu,k,xs,o8 I.hok eb,dd,h _ _ (I.tok _) ?_⟩;rw[l];exact(rel.val k).getD rfl
end
def Hj(td ty:TE):TE:=fun σ H Q=>td σ H fun x H1=>∃a,x=.ref a/\IsD H1 a/\ty σ H1 fun y H2=>∃o,jh H2 a y o/\Q (o.getD .non) H2
section
variable{X:Cx}{o e f:Expr}{SM cpos:Pos}{td ty tx:TE}
theorem Hl(hu:X.A.units+1<cLine)(ho:PE X o td)(he:PE X e ty)(m:M1 X o "get" SM e cpos):PE X (.Call (.Attribute o "get" SM) [e] [] cpos) (Hj td ty):=by intro Dz s σ H Q I h;refine wpAny_Call_method m.base m.few m.line PySem.F.plainAttrs_dict XX PySem.F.type_dict_get (thn (ho Dz s σ H _ I h) fun u s1 ⟨x,H1,I1,rx,a,ex,d,q1⟩=>?_);subst ex;obtain rfl:u=VF a:=rx;obtain⟨t1,t2,_⟩:=Hi I1 d;refine⟨t1,t2,?_⟩;rw[m.trees];refine XQ rfl (XZ (Yb (thn (he Dz s1 σ H1 _ I1 q1) fun iv s2 ⟨y,H2,I2,ry,ov,g,q2⟩=>XM ?_)));exact OC hu I2 g ry fun w' s3 I3 rw'=>⟨_,H2,I3,rw',q2⟩
end
end L2
namespace Dm
inductive Dat where
 |non
 |bl (b:Bool)
 |int (i:Int)
 |str (s:List Nat)
 |tup (xs:List Dat)
 |lst (xs:List Dat)
 |dct (ks:List Int) (vs:List Dat)
 |dcp (ks:List (Int×Int)) (vs:List Dat)
 |exc (C:Nat)
 |cY (C:Nat) (v:Int)
 |fn (a:Nat)
deriving Inhabited
inductive Cell where
 |un
 |sh (d:Dat)
 |ow (d:Dat)
deriving Inhabited
noncomputable abbrev Env:=List Cell
inductive Val where
 |val (d:Dat)
 |slot (i:Nat)
 |new (d:Dat)
inductive RV where
 |val (d:Dat)
 |new (d:Dat)
noncomputable def RV.dat:RV->Dat
 |.val d=>d
 |.new d=>d
noncomputable def RV.cu:RV->Val
 |.val d=>.val d
 |.new d=>.new d
noncomputable def SZ:Nat:=100000
noncomputable def lK:Dat->Bool
 |.tup _=>true
 |.lst _=>true
 |.dct _ _=>true
 |.dcp _ _=>true
 |.exc _=>true
 |.cY _ _=>true
 |_=>false
noncomputable def pk(ρ:Env):Val->Option Dat
 |.val d=>some d
 |.new d=>some d
 |.slot i=>match ρ[i]? with
  |some (.ow d)=>some d
  |some (.sh d)=>some d
  |_=>none
noncomputable def tk(ρ:Env):Val->Option (Dat×Env)
 |.val d=>some (d,ρ)
 |.new d=>some (d,ρ)
 |.slot i=>match ρ[i]? with
  |some (.ow d)=>some (d,ρ.set i (.sh d))
  |some (.sh d)=>some (d,ρ)
  |_=>none
noncomputable def pks(ρ:Env):List Val->Option (List Dat)
 |[]=>some []
 |x::r=>match pk ρ x with
  |none=>none
  |some d=>match pks ρ r with
   |none=>none
   |some ds=>some (d::ds)
noncomputable def tks(ρ:Env):List Val->Option (List Dat×Env)
 |[]=>some ([],ρ)
 |x::r=>match tk ρ x with
  |none=>none
  |some (d,ρ1)=>match tks ρ1 r with
   |none=>none
   |some (ds,ρ2)=>some (d::ds,ρ2)
noncomputable abbrev FE:=Env->Option (Val×Env)
noncomputable abbrev FT:=Env->Option (Bool×Env)
noncomputable def eC(d:Dat):FE:=fun ρ=>some (.val d,ρ)
noncomputable def eV(i:Nat):FE:=fun ρ=>match ρ[i]? with
 |some (.sh d)=>some (.val d,ρ)
 |some (.ow _)=>some (.slot i,ρ)
 |_=>none
noncomputable def e1(g:Dat->Option RV)(a:FE):FE:=fun ρ=>match a ρ with
 |none=>none
 |some (x,ρ1)=>match pk ρ1 x with
  |none=>none
  |some d=>match g d with
   |none=>none
   |some v=>some (v.cu,ρ1)
noncomputable def e2(g:Dat->Dat->Option RV)(a b:FE):FE:=fun ρ=>match a ρ with
 |none=>none
 |some (x,ρ1)=>match b ρ1 with
  |none=>none
  |some (y,ρ2)=>match pk ρ2 x with
   |none=>none
   |some d=>match pk ρ2 y with
    |none=>none
    |some e=>match g d e with
     |none=>none
     |some v=>some (v.cu,ρ2)
noncomputable def eAs:List FE->Env->Option (List Val×Env)
 |[],ρ=>some ([],ρ)
 |a::r,ρ=>match a ρ with
  |none=>none
  |some (x,ρ1)=>match eAs r ρ1 with
   |none=>none
   |some (xs,ρ2)=>some (x::xs,ρ2)
noncomputable def eB(g:List Dat->Option RV)(as:List FE):FE:=fun ρ=>match eAs as ρ with
 |none=>none
 |some (xs,ρ1)=>match pks ρ1 xs with
  |none=>none
  |some ds=>match g ds with
   |none=>none
   |some v=>some (v.cu,ρ1)
noncomputable def jy(as:List FE):FE:=fun ρ=>match eAs as ρ with
 |none=>none
 |some (xs,ρ1)=>match tks ρ1 xs with
  |none=>none
  |some (ds,ρ2)=>if ds.length<=SZ then some (.val (.tup ds),ρ2) else none
noncomputable def jz(as:List FE):FE:=fun ρ=>match eAs as ρ with
 |none=>none
 |some (xs,ρ1)=>match tks ρ1 xs with
  |none=>none
  |some (ds,ρ2)=>if ds.length<=SZ then some (.new (.lst ds),ρ2) else none
noncomputable def eF(f:List Dat->Option RV)(as:List FE):FE:=fun ρ=>match eAs as ρ with
 |none=>none
 |some (xs,ρ1)=>match pks ρ1 xs with
  |none=>none
  |some ds=>match f ds with
   |none=>none
   | some v=>if lK v.dat then (match tks ρ1 xs with
     |none=>none
     |some (_,ρ2)=>some (v.cu,ρ2)) else some (v.cu,ρ1)
noncomputable def eIf(t:FT)(a b:FE):FE:=fun ρ=>match t ρ with
 |none=>none
 |some (true,ρ1)=>a ρ1
 |some (false,ρ1)=>b ρ1
noncomputable def vh(a b:FE):FE:=fun ρ=>match a ρ with
 |some (.val (.bl true),ρ1)=>b ρ1
 |some (.val (.bl false),ρ1)=>some (.val (.bl false),ρ1)
 |_=>none
noncomputable def FG(a:FE):FE:=fun ρ=>match a ρ with
 |some (.val (.bl c),ρ1)=>some (.val (.bl (!c)),ρ1)
 |_=>none
noncomputable def tV(a:FE):FT:=fun ρ=>match a ρ with
 |some (.val (.bl c),ρ1)=>some (c,ρ1)
 |_=>none
noncomputable def sV(t:FT):FT:=fun ρ=>match t ρ with
 |some (c,ρ1)=>some (!c,ρ1)
 |none=>none
noncomputable def o7(t u:FT):FT:=fun ρ=>match t ρ with
 |some (true,ρ1)=>u ρ1
 |some (false,ρ1)=>some (false,ρ1)
 |none=>none
noncomputable def tOr(t u:FT):FT:=fun ρ=>match t ρ with
 |some (true,ρ1)=>some (true,ρ1)
 |some (false,ρ1)=>u ρ1
 |none=>none
noncomputable def truth:Dat->Option Bool
 |.non=>some false
 |.bl b=>some b
 |.int i=>some (i != 0)
 |.tup xs=>some (!xs.isEmpty)
 |.lst xs=>some (!xs.isEmpty)
 |_=>none
noncomputable def tTr(a:FE):FT:=fun ρ=>match a ρ with
 |none=>none
 |some (x,ρ1)=>match pk ρ1 x with
  |none=>none
  |some d=>match truth d with
   |none=>none
   |some c=>some (c,ρ1)
noncomputable def iE:FT:=fun ρ=>some (true,ρ)
noncomputable abbrev FI:=Env->Option (List Dat×Env)
noncomputable def iL(a:FE):FI:=fun ρ=>match a ρ with
 |none=>none
 |some (x,ρ1)=>match tk ρ1 x with
  |some (.lst ds,ρ2)=>some (ds,ρ2)
  |_=>none
noncomputable def iT(a:FE):FI:=fun ρ=>match a ρ with
 |none=>none
 |some (x,ρ1)=>match tk ρ1 x with
  |some (.tup ds,ρ2)=>some (ds,ρ2)
  |_=>none
noncomputable def iS(a:FE):FI:=fun ρ=>match a ρ with
 |none=>none
 |some (x,ρ1)=>match tk ρ1 x with
  |some (.lst ds,ρ2)=>some (ds,ρ2)
  |some (.tup ds,ρ2)=>some (ds,ρ2)
  |_=>none
noncomputable def ups(lo:Int)(n:Nat):List Dat:=(VO n).map fun i=>Dat.int (lo+(i:Nat))
noncomputable def downs(hi:Int)(n:Nat):List Dat:=(VO n).map fun i=>Dat.int (hi-(i:Nat))
noncomputable def BIG:Int:=1000000000
noncomputable def iR1(a:FE):FI:=fun ρ=>match a ρ with
 |some (.val (.int j),ρ1)=>if j<=BIG/\-BIG<=j then some (ups 0 j.toNat,ρ1) else none
 |_=>none
noncomputable def iR2(a b:FE):FI:=fun ρ=>match a ρ with
 | some (.val (.int i),ρ1)=>(match b ρ1 with
  |some (.val (.int j),ρ2)=>if j<=BIG/\-BIG<=j/\i<=BIG/\-BIG<=i then some (ups i (j-i).toNat,ρ2) else none
  |_=>none)
 |_=>none
noncomputable abbrev FB:=Dat->Env->Option Env
noncomputable def bN(i:Nat):FB:=fun d ρ=>if i=0 then none else some (ρ.set i (.sh d))
noncomputable def sets:List Nat->List Dat->Env->Option Env
 |[],[],ρ=>some ρ
 |i::is,d::ds,ρ=>if i=0 then none else sets is ds (ρ.set i (.sh d))
 |_,_,_=>none
noncomputable def bT(is:List Nat):FB:=fun d ρ=>match d with
 |.tup ds=>sets is ds ρ
 |_=>none
noncomputable def lM(bd:FB)(t:FT)(el:FE):List Dat->Env->List Dat->Option (List Dat×Env)
 |[],ρ,Qa=>some (Qa,ρ)
 |d::r,ρ,Qa=>match bd d ρ with
  |none=>none
  |some ρ1=>match t ρ1 with
   |none=>none
   |some (false,ρ2)=>lM bd t el r ρ2 Qa
   |some (true,ρ2)=>match el ρ2 with
    |none=>none
    |some (x,ρ3)=>match tk ρ3 x with
     |none=>none
     |some (y,ρ4)=>lM bd t el r ρ4 (Qa++[y])
noncomputable def gy(it:FI)(own:Nat)(bd:FB)(t:FT)(el:FE):FE:=fun ρ=>match it ρ with
 |none=>none
 | some (ds,ρ1)=>if ds.length≤SZ then (match lM bd t el ds (ρ1++Dp own .un) [] with
  |none=>none
  |some (ys,ρ2)=>some (.new (.lst ys),ρ2.take ρ1.length)) else none
inductive Out where
 |nx (ρ:Env)
 |ret (r:RV) (ρ:Env)
 |bk (ρ:Env)
 |ct (ρ:Env)
noncomputable abbrev FS:=Env->Option Out
noncomputable def sNx:FS:=fun ρ=>some (.nx ρ)
noncomputable def aR(s u:FS):FS:=fun ρ=>match s ρ with
 |some (.nx ρ1)=>u ρ1
 |o=>o
noncomputable def sA(i:Nat)(e:FE):FS:=fun ρ=>if i=0 then none else match e ρ with
 |none=>none
 |some (.new d,ρ1)=>some (.nx (ρ1.set i (.ow d)))
 |some (x,ρ1)=>match tk ρ1 x with
  |none=>none
  |some (d,ρ2)=>some (.nx (ρ2.set i (.sh d)))
noncomputable def sE(e:FE):FS:=fun ρ=>match e ρ with
 |none=>none
 |some (_,ρ1)=>some (.nx ρ1)
noncomputable def sR(e:FE):FS:=fun ρ=>match e ρ with
 |none=>none
 |some (.new d,ρ1)=>some (.ret (.new d) ρ1)
 |some (.val d,ρ1)=>some (.ret (.val d) ρ1)
 |some (.slot i,ρ1)=>match ρ1[i]? with
  |some (.ow d)=>some (.ret (.new d) (ρ1.set i .un))
  |some (.sh d)=>some (.ret (.val d) ρ1)
  |_=>none
noncomputable def sIf(t:FT)(a b:FS):FS:=fun ρ=>match t ρ with
 |none=>none
 |some (true,ρ1)=>a ρ1
 |some (false,ρ1)=>b ρ1
noncomputable def Ba(i:Nat)(e:FE):FS:=fun ρ=>match ρ[i]? with
 | some (.ow (.lst _))=>(match e ρ with
  |none=>none
  |some (x,ρ1)=>match tk ρ1 x with
   |none=>none
   |some (d,ρ2)=>match ρ2[i]? with
    |some (.ow (.lst ds))=>if ds.length<SZ then some (.nx (ρ2.set i (.ow (.lst (ds++[d]))))) else none
    |_=>none)
 |_=>none
noncomputable def ixN(n:Nat)(i:Int):Option Nat:=
 if 0<=i then (if i<n then some i.toNat else none) else if -(n:Int)<=i then some (i+n).toNat else none
noncomputable def FH(i:Nat)(j e:FE):FS:=fun ρ=>match e ρ with
 |none=>none
 |some (x,ρ1)=>match tk ρ1 x with
  |none=>none
  |some (d,ρ2)=>match ρ2[i]? with
   | some (.ow _)=>(match j ρ2 with
    | some (.val (.int k),ρ3)=>(match ρ3[i]? with
     | some (.ow (.lst ds))=>(match ixN ds.length k with
      |none=>none
      |some m=>some (.nx (ρ3.set i (.ow (.lst (ds.set m d))))))
     |_=>none)
    |_=>none)
   |_=>none
noncomputable def s_(bd:FB)(body:FS):List Dat->FS
 |[],ρ=>some (.nx ρ)
 |d::r,ρ=>match bd d ρ with
  |none=>none
  |some ρ1=>match body ρ1 with
   |some (.nx ρ2)=>s_ bd body r ρ2
   |some (.ct ρ2)=>s_ bd body r ρ2
   |some (.bk ρ2)=>some (.nx ρ2)
   |some (.ret v ρ2)=>some (.ret v ρ2)
   |none=>none
noncomputable def tu(it:FI)(bd:FB)(body:FS):FS:=fun ρ=>match it ρ with
 |none=>none
 |some (ds,ρ1)=>s_ bd body ds ρ1
noncomputable def whD(t:FT)(body:FS):Nat->FS
 |0,_=>none
 |n+1,ρ=>match t ρ with
  |none=>none
  |some (false,ρ1)=>some (.nx ρ1)
  |some (true,ρ1)=>match body ρ1 with
   |some (.nx ρ2)=>whD t body n ρ2
   |some (.ct ρ2)=>whD t body n ρ2
   |some (.bk ρ2)=>some (.nx ρ2)
   |some (.ret v ρ2)=>some (.ret v ρ2)
   |none=>none
noncomputable def fn(n m:Nat)(body:FS)(ds:List Dat):Option RV:=if ds.length=n then (match body (ds.map Cell.sh++Dp m .un) with
 |some (.ret r _)=>some r
 |some (.nx _)=>some (.val .non)
 |_=>none) else none
noncomputable def b2i(b:Bool):Int:=if b then 1 else 0
mutual
noncomputable def eqD:Dat->Dat->Bool
 |.non,.non=>true
 |.bl a,.bl b=>a == b
 |.bl a,.int j=>b2i a == j
 |.int i,.bl b=>i == b2i b
 |.int i,.int j=>i == j
 |.str a,.str b=>a == b
 |.tup xs,.tup ys=>vj xs ys
 |.lst xs,.lst ys=>vj xs ys
 |_,_=>false
noncomputable def vj:List Dat->List Dat->Bool
 |[],[]=>true
 |x::xs,y::ys=>eqD x y&&vj xs ys
 |_,_=>false
end
noncomputable def okD:Nat->Dat->Bool
 |_,.dct _ _=>false
 |_,.dcp _ _=>false
 |_,.exc _=>false
 |_,.cY _ _=>false
 |_,.fn _=>false
 |_,.str s=>s.all fun c=>decide (c<128)
 |0,.tup _=>false
 |0,.lst _=>false
 |n+1,.tup xs=>xs.all (okD n)
 |n+1,.lst xs=>xs.all (okD n)
 |_,_=>true
noncomputable abbrev vB(b:Bool):Option RV:=some (.val (.bl b))
noncomputable def Ho(p:Dat->Bool):Dat->Option RV
 |.exc _=>none
 |.cY _ _=>none
 |.fn _=>none
 |d=>vB (p d)
noncomputable abbrev vI(i:Int):Option RV:=some (.val (.int i))
noncomputable def gEq(x y:Dat):Option RV:=if okD 8 x&&okD 8 y then vB (eqD x y) else none
noncomputable def gNe(x y:Dat):Option RV:=if okD 8 x&&okD 8 y then vB (!eqD x y) else none
noncomputable def gLt:Dat->Dat->Option RV
 |.int i,.int j=>vB (decide (i<j))
 |_,_=>none
noncomputable def gLe:Dat->Dat->Option RV
 |.int i,.int j=>vB (decide (i<=j))
 |_,_=>none
noncomputable def gGt:Dat->Dat->Option RV
 |.int i,.int j=>vB (decide (j<i))
 |_,_=>none
noncomputable def gGe:Dat->Dat->Option RV
 |.int i,.int j=>vB (decide (j<=i))
 |_,_=>none
noncomputable def B64:Int:=18446744073709551616
noncomputable def b_:Dat->Dat->Option RV
 |.int i,.int j=>vI (i+j)
 |.lst xs,.lst ys=>if xs.length+ys.length<=SZ then some (.new (.lst (xs++ys))) else none
 |_,_=>none
noncomputable def vf:Dat->Dat->Option RV
 |.int i,.int j=>vI (i-j)
 |_,_=>none
noncomputable def l0:Dat->Dat->Option RV
 |.int i,.int j=>if (-B64<i/\i<B64)\/(-B64<j/\j<B64) then vI (i*j) else none
 |.lst xs,.int k=>if k<=BIG/\-BIG<=k/\xs.length*k.toNat<=SZ then some (.new (.lst (Dp k.toNat xs).flatten)) else none
 |_,_=>none
noncomputable def tw:Int:=1606938044258990275541962092341162602522202993782792835301376
noncomputable def C0:Dat->Dat->Option RV
 |.int i,.int j=>if 0<j/\j<tw then vI (i / j) else none
 |_,_=>none
noncomputable def tE:Dat->Dat->Option RV
 |.int i,.int j=>if 0<j then vI (i % j) else none
 |_,_=>none
noncomputable def Bb:Dat->Dat->Option RV
 |.int i,.int j=>if 0<=j/\j<=1000000/\i.natAbs<1000000 then vI (i ^ j.toNat) else none
 |_,_=>none
noncomputable def Hq:Dat->Option RV
 |.int i=>vI (-i)
 |_=>none
noncomputable def atI(xs:List Dat)(i:Int):Option Dat:=(ixN xs.length i).bind fun j=>xs[j]?
noncomputable def gIx:Dat->Dat->Option RV
 |.lst xs,.int i=>(atI xs i).map .val
 |.tup xs,.int i=>(atI xs i).map .val
 |_,_=>none
noncomputable def inD(x:Dat)(xs:List Dat):Bool:=xs.any fun y=>eqD y x
noncomputable def gIn:Dat->Dat->Option RV
 |x,.lst xs=>if okD 8 x&&xs.all (okD 7) then vB (inD x xs) else none
 |x,.tup xs=>if okD 8 x&&xs.all (okD 7) then vB (inD x xs) else none
 |_,_=>none
noncomputable def tF:Dat->Dat->Option RV
 |x,.lst xs=>if okD 8 x&&xs.all (okD 7) then vB (!inD x xs) else none
 |x,.tup xs=>if okD 8 x&&xs.all (okD 7) then vB (!inD x xs) else none
 |_,_=>none
noncomputable def sIx(n d:Nat):Option Int->Nat
 |none=>d
 |some v=>(if v<0 then max (v+n) 0 else min v n).toNat
noncomputable def cut(xs:List Dat)(lo hi:Option Int):List Dat:=(xs.drop (sIx xs.length 0 lo)).take (sIx xs.length xs.length hi-sIx xs.length 0 lo)
noncomputable def yJ:List Dat->Option RV
 |[.lst xs]=>vI xs.length
 |[.tup xs]=>vI xs.length
 |_=>none
noncomputable def zd:List Dat->Option RV
 |[.int i,.int j]=>vI (if j<i then j else i)
 |_=>none
noncomputable def ze:List Dat->Option RV
 |[.int i,.int j]=>vI (if j>i then j else i)
 |_=>none
noncomputable def Er:List Dat->Option RV
 |[.lst xs]=>some (.new (.lst xs))
 |[.tup xs]=>some (.new (.lst xs))
 |_=>none
noncomputable def tG:List Dat->Option RV
 |[.lst xs]=>some (.val (.tup xs))
 |[.tup xs]=>some (.val (.tup xs))
 |_=>none
noncomputable def isI:Dat->Bool
 |.int _=>true
 |.bl _=>true
 |_=>false
noncomputable def isB:Dat->Bool
 |.bl _=>true
 |_=>false
noncomputable def o9(g h:Dat->Dat->Option RV)(a b c:FE):FE:=fun ρ=>match a ρ with
 |none=>none
 |some (x,ρ1)=>match b ρ1 with
  |none=>none
  |some (y,ρ2)=>match pk ρ2 x with
   |none=>none
   |some d=>match pk ρ2 y with
    |none=>none
    |some e=>match g d e with
     | some (.val (.bl true))=>(match c ρ2 with
      |none=>none
      |some (z,ρ3)=>match pk ρ3 y with
       |none=>none
       |some e'=>match pk ρ3 z with
        |none=>none
        |some f=>match h e' f with
         |none=>none
         |some v=>some (v.cu,ρ3))
     |some (.val (.bl false))=>some (.val (.bl false),ρ2)
     |_=>none
noncomputable def part:Option FE->Env->Option (Option Int×Env)
 |none,ρ=>some (none,ρ)
 |some f,ρ=>match f ρ with
  |some (.val (.int i),ρ1)=>some (some i,ρ1)
  |_=>none
noncomputable def eSl(a:FE)(lo hi:Option FE):FE:=fun ρ=>match a ρ with
 |none=>none
 |some (x,ρ1)=>match part lo ρ1 with
  |none=>none
  |some (l,ρ2)=>match part hi ρ2 with
   |none=>none
   |some (h,ρ3)=>match pk ρ3 x with
    |some (.lst xs)=>some (.new (.lst (cut xs l h)),ρ3)
    |_=>none
end Dm
open Dm(Dat FE RV FT FS)
namespace Br
open PySem L2
noncomputable def kP(p:Int×Int):List Key:=[VW p.1,VW p.2]
def ee(H:Hp):List Addr->List (Int×Int)->Prop
 |[],[]=>True
 |t::ts,p::ks=>H t=some (.tup [V.int p.1,V.int p.2])/\ee H ts ks
 |_,_=>False
theorem ee.mono{H H':Hp}(s:aJ H H'):∀{ts:List Addr} {ks:List (Int×Int)},ee H ts ks->ee H' ts ks
 |[],[],_=>trivial
 |_::_,_::_,h=>⟨s _ _ h.1,ee.mono s h.2⟩
 |[],_::_,h=>h
 |_::_,[],h=>h
def FJ(H:Hp)(x:List (List Key×V)×List Addr)(ks:List (Int×Int)):Prop:=x.1.map (·.1)=ks.map kP/\ee H x.2 ks
theorem FJ.mono{H H':Hp}(s:aJ H H'){x:List (List Key×V)×List Addr}{ks:List (Int×Int)}(h:FJ H x ks):FJ H' x ks:=⟨h.1,h.2.mono s⟩
mutual
inductive Rep(H:Hp):V->Dat->Prop
 |non:Rep H V.non Dat.non
 |bl (b:Bool):Rep H (V.bl b) (Dat.bl b)
 |int (i:Int):Rep H (V.int i) (Dat.int i)
 |str (s:List Nat):Rep H (V.str ⟨s.toArray⟩) (Dat.str s)
 |tup {a:Addr} {xs:List V} {ds:List Dat}:H a=some (.tup xs)->aN H xs ds->Rep H (V.ref a) (Dat.tup ds)
 |lst {a:Addr} {xs:List V} {ds:List Dat}:Rd H a (.lst xs)->aN H xs ds->Rep H (V.ref a) (Dat.lst ds)
 |dct {a:Addr} {kvs:List (Key×V)} {ks:List Int} {ds:List Dat}:H a=some (.dK kvs)->kvs.map (·.1)=ks.map VW->aN H (kvs.map (·.2)) ds->Rep H (V.ref a) (Dat.dct ks ds)
 |dcp {a:Addr} {x:List (List Key×V)×List Addr} {ks:List (Int×Int)} {ds:List Dat}:H a=some (.dT x.1 x.2)->FJ H x ks->aN H (x.1.map (·.2)) ds->Rep H (V.ref a) (Dat.dcp ks ds)
 |exc {a:Addr} {C:Nat}:H a=some (.ext fun h=>∃o,h.get? a=some o/\o.cls=.ref C)->Rep H (V.ref a) (Dat.exc C)
 |cY {a d:Addr} {C:Nat} {v:Int}:H a=some (.ext fun h=>∃o,h.get? a=some o/\o.cls=.ref C/\o.dict=some d/\∀c,o.data≠.cls c)->H d=some (.xd [("moment",.int v)])->Rep H (V.ref a) (Dat.cY C v)
 |fn (a:Addr):Rep H (V.ref a) (Dat.fn a)
inductive aN(H:Hp):List V->List Dat->Prop
 |nil:aN H [] []
 |cons {v:V} {d:Dat} {vs:List V} {ds:List Dat}:Rep H v d->aN H vs ds->aN H (v::vs) (d::ds)
end
theorem aJ.rd{H H':Hp}(s:aJ H H'){a:Addr}{u:HO}(h:Rd H a u):Rd H' a u:=by
 rcases h with h | ⟨o,h⟩
 ·exact .inl (s _ _ h)
 ·exact .inr ⟨o,s _ _ h⟩
mutual
theorem Rep.mono{H H':Hp}(s:aJ H H'):∀{v:V} {d:Dat},Rep H v d->Rep H' v d
 |_,_,.non=>.non
 |_,_,.bl b=>.bl b
 |_,_,.int i=>.int i
 |_,_,.str x=>.str x
 |_,_,.tup h r=>.tup (s _ _ h) (aN.mono s r)
 |_,_,.lst h r=>.lst (aJ.rd s h) (aN.mono s r)
 |_,_,.dct h e r=>.dct (s _ _ h) e (aN.mono s r)
 |_,_,.dcp h e r=>.dcp (s _ _ h) (e.mono s) (aN.mono s r)
 |_,_,.exc h=>.exc (s _ _ h)
 |_,_,.cY h k=>.cY (s _ _ h) (s _ _ k)
 |_,_,.fn a=>.fn a
theorem aN.mono{H H':Hp}(s:aJ H H'):∀{vs:List V} {ds:List Dat},aN H vs ds->aN H' vs ds
 |_,_,.nil=>.nil
 |_,_,.cons h r=>.cons (Rep.mono s h) (aN.mono s r)
end
section
variable{ρ:Dm.Env}{H0 H:Hp}{d:Dat}{σ:St}{a:Addr}{x:Dm.Val}{v:V}{X:Cx}{t t':TS}{p:Addr}{e:Expr}{o:HO}
theorem aN.length{H:Hp}:∀{vs:List V} {ds:List Dat},aN H vs ds->vs.length=ds.length
 |_,_,.nil=>rfl
 |_,_,.cons _ r=>by simp[aN.length r]
theorem aN.get{H:Hp}:∀{vs:List V} {ds:List Dat} {i:Nat} {d:Dat},aN H vs ds->ds[i]?=some d->∃v,vs[i]?=some v/\Rep H v d
 |_,_,_,_,.nil,e=>by simp at e
 |_,_,0,_,.cons h _,e=>by simp at e;subst e;exact⟨_,rfl,h⟩
 |_,_,i+1,_,.cons _ r,e=>by obtain⟨v,h1,h2⟩:=aN.get (i:=i) r (by simpa using e);exact⟨v,by simpa using h1,h2⟩
theorem aN.append{H:Hp}:∀{vs ws:List V} {ds es:List Dat},aN H vs ds->aN H ws es->aN H (vs++ws) (ds++es)
 |_,_,_,_,.nil,s=>s
 |_,_,_,_,.cons h r,s=>.cons h (aN.append r s)
theorem aN.take{H:Hp}:∀{vs:List V} {ds:List Dat} (n:Nat),aN H vs ds->aN H (vs.take n) (ds.take n)
 |_,_,0,_=>by simpa using aN.nil
 |_,_,_+1,.nil=>by simpa using aN.nil
 |_,_,n+1,.cons h r=>by simpa using aN.cons h (aN.take n r)
theorem aN.drop{H:Hp}:∀{vs:List V} {ds:List Dat} (n:Nat),aN H vs ds->aN H (vs.drop n) (ds.drop n)
 |_,_,0,r=>by simpa using r
 |_,_,_+1,.nil=>by simpa using aN.nil
 |_,_,n+1,.cons _ r=>by simpa using aN.drop n r
theorem aN.set{H:Hp}(h:Rep H v d):∀{vs:List V} {ds:List Dat} (i:Nat),aN H vs ds->aN H (vs.set i v) (ds.set i d)
 |_,_,_,.nil=>.nil
 |_,_,0,.cons _ r=>.cons h r
 |_,_,i+1,.cons q r=>.cons q (aN.set h i r)
theorem aN.rep{H:Hp}{vs:List V}{ds:List Dat}(r:aN H vs ds):∀k:Nat,aN H (Dp k vs).flatten (Dp k ds).flatten
 |0=>by simpa using aN.nil
 |k+1=>by rw[WM,WM,WJ,WJ];exact aN.append r (aN.rep r k)
def Own(H0 H:Hp)(a:Addr):Dat->Prop
 |.lst ds=>∃xs,H a=some (.lst xs)/\aN H0 xs ds
 |.dct ks ds=>∃kvs:List (Key×V),H a=some (.dK kvs)/\kvs.map (·.1)=ks.map VW/\aN H0 (kvs.map (·.2)) ds
 |.dcp ks ds=>∃x:List (List Key×V)×List Addr,H a=some (.dT x.1 x.2)/\FJ H0 x ks/\aN H0 (x.1.map (·.2)) ds
 |_=>False
theorem Own.some(h:Own H0 H a d):∃o,H a=some o:=by
 cases d with
 |lst ds=>obtain⟨xs,e,_⟩:=h;exact⟨_,e⟩
 |dct ks ds=>obtain⟨xs,e,_⟩:=h;exact⟨_,e⟩
 |dcp ks ds=>obtain⟨xs,e,_⟩:=h;exact⟨_,e⟩
 |_=>exact Vx h
theorem Own.mono{H0 H H0' H':Hp}(h:Own H0 H a d)(s:aJ H0 H0')(e:H' a=H a):Own H0' H' a d:=by
 cases d with
 |lst ds=>obtain⟨xs,q,r⟩:=h;exact⟨xs,by rw[e];exact q,r.mono s⟩
 |dct ks ds=>obtain⟨xs,q,k,r⟩:=h;exact⟨xs,by rw[e];exact q,k,r.mono s⟩
 |dcp ks ds=>obtain⟨xs,q,k,r⟩:=h;exact⟨xs,by rw[e];exact q,k.mono s,r.mono s⟩
 |_=>exact Vx h
def o_(H0 H:Hp)(v:V)(d:Dat):Prop:=Rep H0 v d\/∃a,v=V.ref a/\Own H0 H a d
inductive Bc(H0 H:Hp):List V->List Dat->Prop
 |nil:Bc H0 H [] []
 |cons {v:V} {d:Dat} {vs:List V} {ds:List Dat}:o_ H0 H v d->Bc H0 H vs ds->Bc H0 H (v::vs) (d::ds)
noncomputable def shr(H0 H:Hp)(a:Addr):Hp:=fun b=>if b=a then H a else H0 b
theorem iZ:shr H0 H a a=H a:=by unfold shr;rw[if_pos rfl]
theorem pe{a b:Addr}(h:b≠a):shr H0 H a b=H0 b:=by unfold shr;rw[if_neg h]
theorem kg(h:H0 a=none):aJ H0 (shr H0 H a):=fun b o e=>by
 by_cases q:b=a
 ·subst q;rw[h]at e;cases e
 ·rw[pe q];exact e
theorem Es(s:aJ H0 H):aJ (shr H0 H a) H:=fun b o e=>by
 by_cases q:b=a
 ·subst q;rw[iZ]at e;exact e
 ·rw[pe q]at e;exact s _ _ e
theorem Own.rep(h:Own H0 H a d)(n:H0 a=none):Rep (shr H0 H a) (V.ref a) d:=by
 cases d with
 |lst ds=>obtain⟨xs,q,r⟩:=h;exact .lst (.inl (by rw[iZ];exact q)) (r.mono (kg n))
 |dct ks ds=>obtain⟨xs,q,k,r⟩:=h;exact .dct (by rw[iZ];exact q) k (r.mono (kg n))
 |dcp ks ds=>obtain⟨xs,q,k,r⟩:=h;exact .dcp (by rw[iZ];exact q) (k.mono (kg n)) (r.mono (kg n))
 |_=>exact Vx h
def aE(σ:St)(ρ:Dm.Env)(a:Addr):Prop:=∃(i:Nat) (d:Dat),ρ[i]?=some (Dm.Cell.ow d)/\σ[i]?=some (some (V.ref a))
noncomputable abbrev Def(_:Dm.Env)(_:Nat):Prop:=True
structure aM(H0 H:Hp)(σ:St)(ρ:Dm.Env):Prop where
 same:aJ H0 H
 len:σ.length=ρ.length
 sh:∀(i:Nat) (d:Dat),ρ[i]?=some (Dm.Cell.sh d)->∃v,σ[i]?=some (some v)/\Rep H0 v d
 ow:∀(i:Nat) (d:Dat),ρ[i]?=some (Dm.Cell.ow d)->∃a,σ[i]?=some (some (V.ref a))/\H0 a=none/\Own H0 H a d
 dis:∀(i j:Nat) (d e:Dat) (a:Addr),ρ[i]?=some (Dm.Cell.ow d)->ρ[j]?=some (Dm.Cell.ow e)->σ[i]?=some (some (V.ref a))->σ[j]?=some (some (V.ref a))->i=j
structure Stp(O:Addr->Prop)(H0 H H0' H':Hp):Prop where
 s0:aJ H0 H0'
 s1:∀a o,H a=some o->¬O a->H' a=some o
 s2:∀a o,H0' a=some o->H a=none\/H0 a=some o\/O a
 s3:∀a o,H a=some o->∃o',H' a=some o'
theorem Stp.refl(O:Addr->Prop)(H0 H:Hp):Stp O H0 H H0 H:=⟨aJ.refl _,fun _ _ e _=>e,fun _ _ e=>.inr (.inl e),fun _ o e=>⟨o,e⟩⟩
theorem Stp.gone{O:Addr->Prop}{H0 H H0' H':Hp}(t:Stp O H0 H H0' H')(h:H' a=none):H a=none:=by
 cases q:H a with
 |none=>rfl
 |some o=>obtain⟨o',e⟩:=t.s3 a o q;rw[h]at e;cases e
theorem Stp.trans{O1 O2:Addr->Prop}{H0 H H1 H' H2 H'':Hp}(t:Stp O1 H0 H H1 H')(u:Stp O2 H1 H' H2 H'')(k:∀a,O2 a->O1 a\/H a=none):Stp O1 H0 H H2 H'' where
 s0:=t.s0.trans u.s0
 s1:=fun a o e n=>u.s1 a o (t.s1 a o e n) fun z=>(k a z).elim n fun q=>by rw[q]at e;cases e
 s2:=fun a o e=>by
  rcases u.s2 a o e with q | q | q
  ·exact .inl (t.gone q)
  ·exact t.s2 a o q
  ·rcases k a q with z | z
   ·exact .inr (.inr z)
   ·exact .inl z
 s3:=fun a o e=>by obtain⟨o',e'⟩:=t.s3 a o e;exact u.s3 a o' e'
theorem Stp.wide{O O':Addr->Prop}{H0 H H0' H':Hp}(t:Stp O H0 H H0' H')(k:∀a,O a->O' a):Stp O' H0 H H0' H':=
 ⟨t.s0,fun a o e n=>t.s1 a o e fun z=>n (k a z),fun a o e=>(t.s2 a o e).imp id (Or.imp id (k a)),t.s3⟩
structure aW(H0 H H0' H':Hp):Prop where
 s0:aJ H0 H0'
 s1:aJ H H'
 s2:∀a o,H0' a=some o->H a=none\/H0 a=some o
 s3:aJ H0' H'
theorem aW.refl(s:aJ H0 H):aW H0 H H0 H:=⟨aJ.refl _,aJ.refl _,fun _ _ e=>.inr e,s⟩
theorem aW.stp{H0 H H0' H':Hp}(g:aW H0 H H0' H')(O:Addr->Prop):Stp O H0 H H0' H':=
 ⟨g.s0,fun a o e _=>g.s1 a o e,fun a o e=>(g.s2 a o e).imp id .inl,fun a o e=>⟨o,g.s1 a o e⟩⟩
theorem aW.Hr(s:aJ H0 H)(n:H p=none):aW H0 H (upd H0 p o) (upd H p o) where
 s0:=fun b u e=>by rw[aH (aT e (s.free n))];exact e
 s1:=fun b u e=>by rw[aH (aT e n)];exact e
 s2:=fun b u e=>by
  by_cases q:b=p
  ·subst q;exact .inl n
  ·rw[aH q]at e;exact .inr e
 s3:=fun b u e=>by
  by_cases q:b=p
  ·subst q;rw[aL]at e ⊢;exact e
  ·rw[aH q]at e ⊢;exact s _ _ e
theorem aW.wX(s:aJ H0 H)(n:H p=none):aW H0 H H0 (upd H p o) where
 s0:=aJ.refl _
 s1:=fun b u e=>by rw[aH (aT e n)];exact e
 s2:=fun b u e=>.inr e
 s3:=fun b u e=>by rw[aH (aT (s _ _ e) n)];exact s _ _ e
def l5(Hs H0 H:Hp)(σ:St)(ρ:Dm.Env)(v:V):Dm.Val->Prop
 |.val d=>Rep H0 v d
 |.slot i=>σ[i]?=some (some v)/\Def ρ i
 |.new d=>∃a,v=V.ref a/\Hs a=none/\¬aE σ ρ a/\H0 a=none/\Own H0 H a d
structure ESt(σ:St)(ρ:Dm.Env)(H0 H:Hp)(ρ':Dm.Env)(H0' H':Hp):Prop where
 st:aM H0' H' σ ρ'
 stp:Stp (aE σ ρ) H0 H H0' H'
 own:∀a,aE σ ρ' a->aE σ ρ a
 dfn:∀i,Def ρ i->Def ρ' i
theorem ESt.refl(st:aM H0 H σ ρ):ESt σ ρ H0 H ρ H0 H:=⟨st,Stp.refl _ _ _,fun _ z=>z,fun _ z=>z⟩
theorem ESt.trans{ρ ρ1 ρ2:Dm.Env}{H0 H H1 H' H2 H'':Hp}(t:ESt σ ρ H0 H ρ1 H1 H')(u:ESt σ ρ1 H1 H' ρ2 H2 H''):ESt σ ρ H0 H ρ2 H2 H'':=
 ⟨u.st,t.stp.trans u.stp fun a z=>.inl (t.own a z),fun a z=>t.own a (u.own a z),fun i z=>u.dfn i (t.dfn i z)⟩
theorem aM.grow{H0 H H0' H':Hp}(st:aM H0 H σ ρ)(g:aW H0 H H0' H'):aM H0' H' σ ρ where
 same:=g.s3
 len:=st.len
 sh:=fun i d e=>by obtain⟨v,q,r⟩:=st.sh i d e;exact⟨v,q,r.mono g.s0⟩
 ow:=fun i d e=>by
  obtain⟨a,q,n,w⟩:=st.ow i d e;obtain⟨o,z⟩:=w.some;refine⟨a,q,?_,w.mono g.s0 ((g.s1 a o z).trans z.symm)⟩;cases y:H0' a with
  |none=>rfl
  |some u=>
   rcases g.s2 a u y with k | k
   ·rw[z]at k;cases k
   ·rw[n]at k;cases k
 dis:=st.dis
theorem ESt.grow{H0 H H0' H':Hp}(st:aM H0 H σ ρ)(g:aW H0 H H0' H'):ESt σ ρ H0 H ρ H0' H':=
 ⟨st.grow g,g.stp _,fun _ z=>z,fun _ z=>z⟩
theorem l5.mono{Hs H0 H H0' H':Hp}{ρ ρ':Dm.Env}(r:l5 Hs H0 H σ ρ v x)(t:ESt σ ρ H0 H ρ' H0' H'):l5 Hs H0' H' σ ρ' v x:=by
 cases x with
 |val d=>exact Rep.mono t.stp.s0 r
 |slot i=>exact⟨r.1,t.dfn i r.2⟩
 |new d=>
  obtain⟨a,e,n,no,n0,w⟩:=r;obtain⟨o,z⟩:=w.some;refine⟨a,e,n,fun y=>no (t.own a y),?_,w.mono t.stp.s0 ((t.stp.s1 a o z no).trans z.symm)⟩;cases y:H0' a with
  |none=>rfl
  |some u=>
   rcases t.stp.s2 a u y with k | k | k
   ·rw[z]at k;cases k
   ·rw[n0]at k;cases k
   ·exact absurd k no
theorem l5.early{Hs Hs' H0 H:Hp}(r:l5 Hs H0 H σ ρ v x)(k:∀a,Hs a=none->Hs' a=none):l5 Hs' H0 H σ ρ v x:=by
 cases x with
 |val d=>exact r
 |slot i=>exact r
 |new d=>obtain⟨a,e,n,z⟩:=r;exact⟨a,e,k a n,z⟩
theorem l5.look{Hs H0 H:Hp}(r:l5 Hs H0 H σ ρ v x)(st:aM H0 H σ ρ)(e:Dm.pk ρ x=some d):o_ H0 H v d:=by
 cases x with
 |val d'=>cases e;exact .inl r
 |new d'=>cases e;obtain⟨a,e,_,_,_,w⟩:=r;exact .inr ⟨a,e,w⟩
 |slot i=>
  obtain⟨q,_⟩:=r;unfold Dm.pk at e;dsimp only at e;split at e
  ·rename_i d' h;cases e;obtain⟨a,z,_,w⟩:=st.ow i d h;rw[q]at z;cases z;exact .inr ⟨a,rfl,w⟩
  ·rename_i d' h;cases e;obtain⟨u,z,w⟩:=st.sh i d h;rw[q]at z;cases z;exact .inl w
  ·cases e
def z7(Hs H0 H:Hp)(v:V):RV->Prop
 |.val d=>Rep H0 v d
 |.new d=>∃a,v=V.ref a/\Hs a=none/\H0 a=none/\Own H0 H a d
theorem z7.toV{H H0' H' H0:Hp}{z:RV}(r:z7 H H0' H' v z)(st:aM H0 H σ ρ):l5 H H0' H' σ ρ v z.cu:=by
 cases z with
 |val d=>exact r
 |new d=>obtain⟨a,e,n,n0,w⟩:=r;refine⟨a,e,n,fun⟨i,d',h1,h2⟩=>?_,n0,w⟩;obtain⟨a',q,_,w'⟩:=st.ow i d' h1;rw[h2]at q;cases q;obtain⟨o,z⟩:=w'.some;rw[n]at z;cases z
def tD(f:FE):TE:=fun σ H Q=>∃H0 ρ x ρ',aM H0 H σ ρ/\f ρ=some (x,ρ')/\∀v H0' H',ESt σ ρ H0 H ρ' H0' H'->l5 H H0' H' σ ρ' v x->Q v H'
def tDT(f:FT):TT:=fun σ H Q=>∃H0 ρ b ρ',aM H0 H σ ρ/\f ρ=some (b,ρ')/\∀H0' H',ESt σ ρ H0 H ρ' H0' H'->Q b H'
inductive jd(Hs H0 H:Hp)(σ:St)(ρ:Dm.Env):List V->List Dm.Val->Prop
 |nil:jd Hs H0 H σ ρ [] []
 |cons {v:V} {x:Dm.Val} {vs:List V} {xs:List Dm.Val}:l5 Hs H0 H σ ρ v x->jd Hs H0 H σ ρ vs xs->jd Hs H0 H σ ρ (v::vs) (x::xs)
def tDA(fs:List FE):TA:=fun σ H Q=>∃H0 ρ xs ρ',aM H0 H σ ρ/\Dm.eAs fs ρ=some (xs,ρ')/\∀vs H0' H',ESt σ ρ H0 H ρ' H0' H'->jd H H0' H' σ ρ' vs xs->Q vs H'
noncomputable abbrev DE(X:Cx)(e:Expr)(f:FE):Prop:=PE X e (tD f)
noncomputable abbrev DT(X:Cx)(e:Expr)(f:FT):Prop:=PT X e (tDT f)
noncomputable abbrev DA(X:Cx)(es:List Expr)(fs:List FE):Prop:=PA X es (tDA fs)
theorem PE.weak{t t':TE}(h:PE X e t)(k:∀σ H Q,t' σ H Q->t σ H Q):PE X e t':=fun Dz s σ H Q I q=>h Dz s σ H Q I (k σ H Q q)
theorem PT.weak{t t':TT}(h:PT X e t)(k:∀σ H Q,t' σ H Q->t σ H Q):PT X e t':=fun Dz s σ H Q I q=>h Dz s σ H Q I (k σ H Q q)
theorem PA.weak{es:List Expr}{t t':TA}(h:PA X es t)(k:∀σ H Q,t' σ H Q->t σ H Q):PA X es t':=fun pos Dz s σ H Q I q=>h pos Dz s σ H Q I (k σ H Q q)
theorem PS.weak{st:Stmt}(h:PS X st t)(k:∀D σ H,t' D σ H->t D σ H):PS X st t':=fun Dz s σ H D I q=>h Dz s σ H D I (k D σ H q)
theorem PSs.weak{st:List Stmt}(h:PSs X st t)(k:∀D σ H,t' D σ H->t D σ H):PSs X st t':=fun Dz s σ H D I q=>h Dz s σ H D I (k D σ H q)
theorem gv(s:aJ H0 H):aJ H0 (shr H0 H a):=fun b o e=>by
 by_cases q:b=a
 ·subst q;rw[iZ];exact s _ _ e
 ·rw[pe q];exact e
theorem Own.Ri{H0 H0c H:Hp}(h:Own H0 H a d)(b:aJ H0 H0c)(s:aJ H0c H):Rep (shr H0c H a) (V.ref a) d:=by
 cases d with
 |lst ds=>obtain⟨xs,q,r⟩:=h;exact .lst (.inl (by rw[iZ];exact q)) (r.mono (b.trans (gv s)))
 |dct ks ds=>obtain⟨xs,q,k,r⟩:=h;exact .dct (by rw[iZ];exact q) k (r.mono (b.trans (gv s)))
 |dcp ks ds=>obtain⟨xs,q,k,r⟩:=h;exact .dcp (by rw[iZ];exact q) (k.mono (b.trans (gv s))) (r.mono (b.trans (gv s)))
 |_=>exact Vx h
theorem l5.rho{Hs H0 H:Hp}{ρ ρ':Dm.Env}(r:l5 Hs H0 H σ ρ v x)(o:∀a,aE σ ρ' a->aE σ ρ a)(d:∀i,Def ρ i->Def ρ' i):l5 Hs H0 H σ ρ' v x:=by
 cases x with
 |val d=>exact r
 |slot i=>exact⟨r.1,d i r.2⟩
 |new d=>obtain⟨a,e,n,no,z⟩:=r;exact⟨a,e,n,fun y=>no (o a y),z⟩
theorem jd.rho{Hs H0 H:Hp}{ρ ρ':Dm.Env}(o:∀a,aE σ ρ' a->aE σ ρ a)(d:∀i,Def ρ i->Def ρ' i):∀{vs:List V} {xs:List Dm.Val},jd Hs H0 H σ ρ vs xs->jd Hs H0 H σ ρ' vs xs
 |_,_,.nil=>.nil
 |_,_,.cons h r=>.cons (h.rho o d) (jd.rho o d r)
theorem jd.early{Hs Hs' H0 H:Hp}(k:∀a,Hs a=none->Hs' a=none):∀{vs:List V} {xs:List Dm.Val},jd Hs H0 H σ ρ vs xs->jd Hs' H0 H σ ρ vs xs
 |_,_,.nil=>.nil
 |_,_,.cons h r=>.cons (h.early k) (jd.early k r)
theorem bf{i j:Nat}{c d:Dm.Cell}(h:(ρ.set i c)[j]?=some d):(j=i/\d=c)\/(j≠i/\ρ[j]?=some d):=by
 by_cases e:j=i
 ·subst e;by_cases l:j<ρ.length
  ·rw[Vz l]at h;exact .inl ⟨rfl,(Option.some.inj h).symm⟩
  ·rw[VJ (by simpa using Xs.mp l)]at h;cases h
 ·rw[gc (VS e)]at h;exact .inr ⟨e,h⟩
theorem C1{i:Nat}(st:aM H0 H σ ρ)(e:ρ[i]?=some (.ow d))(q:σ[i]?=some (some (V.ref a))) :
  aM (shr H0 H a) H σ (ρ.set i (.sh d))/\(∀b,aE σ (ρ.set i (.sh d)) b->aE σ ρ b)/\∀j,Def ρ j->Def (ρ.set i (.sh d)) j:=by
 obtain⟨a',q',n,w⟩:=st.ow i d e;rw[q]at q';cases q';have hil:i<ρ.length:=(Vm.mp e).1;refine⟨⟨Es st.same,by rw[VT];exact st.len,fun j d' h=>?_,fun j d' h=>?_,fun j k d1 d2 b h1 h2 h3 h4=>?_⟩,fun b ⟨j,d',h1,h2⟩=>?_,fun j h=>?_⟩
 ·rcases bf h with⟨rfl,z⟩ | ⟨_,h⟩
  ·cases z;exact⟨_,q,w.rep n⟩
  ·obtain⟨v,z,r⟩:=st.sh j d' h;exact⟨v,z,r.mono (kg n)⟩
 ·rcases bf h with⟨_,z⟩ | ⟨hj,h⟩
  ·cases z
  ·obtain⟨b,z,n',w'⟩:=st.ow j d' h;have nb:b≠a:=fun y=>hj (st.dis j i d' d a h e (y▸z) q);exact⟨b,z,by rw[pe nb];exact n',w'.mono (kg n) rfl⟩
 ·rcases bf h1 with⟨_,z⟩ | ⟨_,h1⟩
  ·cases z
  ·rcases bf h2 with⟨_,z⟩ | ⟨_,h2⟩
   ·cases z
   ·exact st.dis j k d1 d2 b h1 h2 h3 h4
 ·rcases bf h1 with⟨_,z⟩ | ⟨_,h1⟩
  ·cases z
  ·exact⟨j,d',h1,h2⟩
 ·trivial
theorem FL(st:aM H0 H σ ρ)(no:¬aE σ ρ a):aM (shr H0 H a) H σ ρ where
 same:=Es st.same
 len:=st.len
 sh:=fun j d h=>by obtain⟨v,z,r⟩:=st.sh j d h;exact⟨v,z,r.mono (gv st.same)⟩
 ow:=fun j d h=>by obtain⟨b,z,n',w'⟩:=st.ow j d h;have nb:b≠a:=fun y=>no ⟨j,d,h,y▸z⟩;exact⟨b,z,by rw[pe nb];exact n',w'.mono (gv st.same) rfl⟩
 dis:=st.dis
theorem take1{Hs H0s H0 H0c H:Hp}{ρs ρ ρ':Dm.Env}(t:ESt σ ρs H0s Hs ρ H0c H)(b:aJ H0 H0c)(r:l5 Hs H0 H σ ρ v x)(e:Dm.tk ρ x=some (d,ρ')) :
  ∃pq,ESt σ ρs H0s Hs ρ' pq H/\aJ H0c pq/\Rep pq v d/\(∀a,aE σ ρ' a->aE σ ρ a)/\∀i,Def ρ i->Def ρ' i:=by
 cases x with
 |val d'=>cases e;exact⟨H0c,t,aJ.refl _,Rep.mono b r,fun _ z=>z,fun _ z=>z⟩
 |new d'=>
  cases e;obtain⟨a,e,n,no,n0,w⟩:=r;subst e;have ss:=gv (a:=a) t.st.same;refine⟨shr H0c H a,⟨FL t.st no,⟨t.stp.s0.trans ss,t.stp.s1,fun c o q=>?_,t.stp.s3⟩,t.own,t.dfn⟩,ss,w.Ri b t.st.same,fun _ z=>z,fun _ z=>z⟩;by_cases y:c=a
  ·subst y;exact .inl n
  ·rw[pe y]at q;exact t.stp.s2 c o q
 |slot i=>
  obtain⟨q,_⟩:=r;unfold Dm.tk at e;dsimp only at e;split at e
  ·rename_i d' h;cases e;obtain⟨a,z,n,w⟩:=t.st.ow i _ h;rw[q]at z;cases z;obtain⟨s1,s2,s3⟩:=C1 t.st h q;have ss:=gv (a:=a) t.st.same;refine⟨shr H0c H a,⟨s1,⟨t.stp.s0.trans ss,t.stp.s1,fun c o q'=>?_,t.stp.s3⟩,fun b z=>t.own b (s2 b z),fun j z=>s3 j (t.dfn j z)⟩,ss,w.Ri (aJ.refl _) t.st.same,s2,s3⟩;by_cases y:c=a
   ·subst y;exact .inr (.inr (t.own c ⟨i,_,h,q⟩))
   ·rw[pe y]at q';exact t.stp.s2 c o q'
  ·rename_i d' h;cases e;obtain⟨u,z,w⟩:=t.st.sh i _ h;rw[q]at z;cases z;exact⟨H0c,t,aJ.refl _,w,fun _ z=>z,fun _ z=>z⟩
  ·cases e
theorem takes{Hs H0s H0 H:Hp}{ρs:Dm.Env}:∀{xs:List Dm.Val} {vs:List V} {ρ ρ':Dm.Env} {ds:List Dat} {H0c:Hp},ESt σ ρs H0s Hs ρ H0c H->aJ H0 H0c->jd Hs H0 H σ ρ vs xs->Dm.tks ρ xs=some (ds,ρ') ->
  ∃pq,ESt σ ρs H0s Hs ρ' pq H/\aJ H0c pq/\aN pq vs ds
 |[],_,ρ,ρ',ds,H0c,t,b,r,e=>by cases r;cases e;exact⟨H0c,t,aJ.refl _,.nil⟩
 |x::xs,_,ρ,ρ',ds,H0c,t,b,r,e=>by
  cases r with
  |cons h r=>
   unfold Dm.tks at e;split at e
   ·cases e
   ·rename_i d ρ1 e1;split at e
    ·cases e
    ·rename_i ds' ρ2 e2;cases e;obtain⟨H1,t1,b1,r1,o1,d1⟩:=take1 t b h e1;obtain⟨H2,t2,b2,r2⟩:=takes t1 (b.trans b1) (r.rho o1 d1) e2;exact⟨H2,t2,b1.trans b2,.cons (r1.mono b2) r2⟩
theorem Rj{ρ ρ':Dm.Env}(e:Dm.tk ρ x=some (d,ρ'))(y:Dm.Val):Dm.pk ρ' y=Dm.pk ρ y:=by
 cases x with
 |val d'=>cases e;rfl
 |new d'=>cases e;rfl
 |slot i=>
  unfold Dm.tk at e;dsimp only at e;split at e
  ·rename_i d' h;cases e;cases y with
   |val _=>rfl
   |new _=>rfl
   |slot j=>
    unfold Dm.pk;dsimp only;by_cases z:j=i
    ·subst z;rw[Vz (Vm.mp h).1,h]
    ·rw[gc (VS z)]
  ·cases e;rfl
  ·cases e
theorem Ht(e:Dm.pk ρ x=some d):∃ρ',Dm.tk ρ x=some (d,ρ'):=by
 cases x with
 |val d'=>cases e;exact⟨ρ,rfl⟩
 |new d'=>cases e;exact⟨ρ,rfl⟩
 |slot i=>
  unfold Dm.pk at e;dsimp only at e;unfold Dm.tk;dsimp only;split at e
  ·rename_i d' h;cases e;exact⟨_,rfl⟩
  ·rename_i d' h;cases e;exact⟨_,rfl⟩
  ·cases e
theorem pA:∀{xs:List Dm.Val} {ρ:Dm.Env} {ds:List Dat},Dm.pks ρ xs=some ds->∃ρ',Dm.tks ρ xs=some (ds,ρ')
 |[],ρ,ds,e=>by cases e;exact⟨ρ,rfl⟩
 |x::xs,ρ,ds,e=>by
  unfold Dm.pks at e;split at e
  ·cases e
  ·rename_i d e1;split at e
   ·cases e
   ·rename_i ds' e2;cases e;obtain⟨ρ1,h1⟩:=Ht e1;have key:∀ys:List Dm.Val,Dm.pks ρ1 ys=Dm.pks ρ ys:=fun ys=>by
     induction ys with
     |nil=>rfl
     |cons y ys ih=>unfold Dm.pks;rw[Rj h1 y,ih]
    obtain⟨ρ2,h2⟩:=pA (xs:=xs) (ρ:=ρ1) (ds:=ds') (by rw[key];exact e2);exact⟨ρ2,by unfold Dm.tks;rw[h1];dsimp only;rw[h2]⟩
theorem looks{Hs H0 H:Hp}(st:aM H0 H σ ρ):∀{xs:List Dm.Val} {vs:List V} {ds:List Dat},jd Hs H0 H σ ρ vs xs->Dm.pks ρ xs=some ds->Bc H0 H vs ds
 |[],_,ds,r,e=>by cases r;cases e;exact .nil
 |x::xs,_,ds,r,e=>by
  cases r with
  |cons h r=>
   unfold Dm.pks at e;split at e
   ·cases e
   ·rename_i d e1;split at e
    ·cases e
    ·rename_i ds' e2;cases e;exact .cons (h.look st e1) (looks st r e2)
def OpD(r:R2)(g:Dat->Dat->Option RV):Prop:=∀(H0 H:Hp) (x y:V) (dx dy:Dat) (z:RV) (Q:VK),aJ H0 H->o_ H0 H x dx->o_ H0 H y dy->g dx dy=some z ->
 (∀v H0' H',aW H0 H H0' H'->z7 H H0' H' v z->Q v H')->r x y H Q
def UnD(r:V->Hp->VK->Prop)(g:Dat->Option RV):Prop:=∀(H0 H:Hp) (x:V) (dx:Dat) (z:RV) (Q:VK),aJ H0 H->o_ H0 H x dx->g dx=some z ->
 (∀v H0' H',aW H0 H H0' H'->z7 H H0' H' v z->Q v H')->r x H Q
def CallD(r:List V->Hp->VK->Prop)(g:List Dat->Option RV):Prop:=∀(H0 H:Hp) (vs:List V) (ds:List Dat) (z:RV) (Q:VK),aJ H0 H->Bc H0 H vs ds->g ds=some z ->
 (∀v H0' H',aW H0 H H0' H'->z7 H H0' H' v z->Q v H')->r vs H Q
def spD(f:List Dat->Option RV):Sp:=fun vs H Q _=>∃H0 ds z,aJ H0 H/\aN H0 vs ds/\f ds=some z/\∀v H0' H',aW H0 H H0' H'->z7 H H0' H' v z->Q v H'
end
section
variable{σ:St}{H:Hp}{Q:VK}
section
variable{fs:List FE}{d:Dat}{t u:FT}{v:V}{a:FE}{H0:Hp}
theorem Rk{i:Nat}(h:tD (Dm.eV i) σ H Q):yE i σ H Q:=by
 obtain⟨H0,ρ,x,ρ',st,e,k⟩:=h;unfold Dm.eV at e;split at e
 ·rename_i d h1;cases e;obtain⟨v,q,r⟩:=st.sh i d h1;exact⟨v,q,k v H0 H (.refl st) r⟩
 ·rename_i d h1;cases e;obtain⟨a,q,_⟩:=st.ow i d h1;exact⟨_,q,k _ H0 H (.refl st) ⟨q,trivial⟩⟩
 ·cases e
theorem z8(c:∀H0:Hp,Rep H0 v d)(h:tD (Dm.eC d) σ H Q):tC v σ H Q:=by obtain⟨H0,ρ,x,ρ',st,e,k⟩:=h;cases e;exact k v H0 H (.refl st) (c H0)
theorem z_{r:R2}{g:Dat->Dat->Option RV}{fa fb:FE}(o:OpD r g)(h:tD (Dm.e2 g fa fb) σ H Q):tOp r (tD fa) (tD fb) σ H Q:=by
 obtain⟨H0,ρ,x,ρ',st,e,k⟩:=h;unfold Dm.e2 at e;split at e
 ·cases e
 rename_i x1 ρ1 e1;split at e
 ·cases e
 rename_i y1 ρ2 e2;split at e
 ·cases e
 rename_i dx p1;split at e
 ·cases e
 rename_i dy p2;split at e
 ·cases e
 rename_i z gz;cases e;refine⟨H0,ρ,x1,ρ1,st,e1,fun v H1 Hb t1 r1=>⟨H1,ρ1,y1,_,t1.st,e2,fun u H2 Hc t2 r2=>?_⟩⟩;refine o H2 Hc v u dx dy z Q t2.st.same ((r1.mono t2).look t2.st p1) (r2.look t2.st p2) gz fun w H3 Hd g3 r3=>?_;exact k w H3 Hd (t1.trans (t2.trans (.grow t2.st g3))) ((r3.toV t2.st).early fun a n=>(t1.trans t2).stp.gone n)
theorem Ub{r:V->Hp->VK->Prop}{g:Dat->Option RV}{fa:FE}(o:UnD r g)(h:tD (Dm.e1 g fa) σ H Q):tUn r (tD fa) σ H Q:=by
 obtain⟨H0,ρ,x,ρ',st,e,k⟩:=h;unfold Dm.e1 at e;split at e
 ·cases e
 rename_i x1 ρ1 e1;split at e
 ·cases e
 rename_i dx p1;split at e
 ·cases e
 rename_i z gz;cases e;refine⟨H0,ρ,x1,_,st,e1,fun v H1 Hb t1 r1=>?_⟩;refine o H1 Hb v dx z Q t1.st.same (r1.look t1.st p1) gz fun w H3 Hd g3 r3=>?_;exact k w H3 Hd (t1.trans (.grow t1.st g3)) ((r3.toV t1.st).early fun a n=>t1.stp.gone n)
theorem Rl{Q:List V->Hp->Prop}(h:tDA [] σ H Q):CQ σ H Q:=by obtain⟨H0,ρ,xs,ρ',st,e,k⟩:=h;cases e;exact k [] H0 H (.refl st) .nil
theorem OD{f:FE}{Q:List V->Hp->Prop}(h:tDA (f::fs) σ H Q):yX (tD f) (tDA fs) σ H Q:=by
 obtain⟨H0,ρ,xs,ρ',st,e,k⟩:=h;unfold Dm.eAs at e;split at e
 ·cases e
 rename_i x1 ρ1 e1;split at e
 ·cases e
 rename_i xs1 ρ2 e2;cases e;refine⟨H0,ρ,x1,ρ1,st,e1,fun v H1 Hb t1 r1=>⟨H1,ρ1,xs1,_,t1.st,e2,fun vs H2 Hc t2 r2=>?_⟩⟩;exact k (v::vs) H2 Hc (t1.trans t2) (.cons (r1.mono t2) (r2.early fun a n=>t1.stp.gone n))
theorem Rm{r:List V->Hp->VK->Prop}{g:List Dat->Option RV}(o:CallD r g)(h:tD (Dm.eB g fs) σ H Q):tCB r (tDA fs) σ H Q:=by
 obtain⟨H0,ρ,x,ρ',st,e,k⟩:=h;unfold Dm.eB at e;split at e
 ·cases e
 rename_i xs ρ1 e1;split at e
 ·cases e
 rename_i ds p1;split at e
 ·cases e
 rename_i z gz;cases e;refine⟨H0,ρ,xs,_,st,e1,fun vs H1 Hb t1 r1=>?_⟩;refine o H1 Hb vs ds z Q t1.st.same (looks t1.st r1 p1) gz fun w H3 Hd g3 r3=>?_;exact k w H3 Hd (t1.trans (.grow t1.st g3)) ((r3.toV t1.st).early fun a n=>t1.stp.gone n)
theorem v_{n:Nat}(h:n<=Dm.SZ):n<=sizeLine:=Nat.le_trans h (by decide)
theorem Rn(h:tD (Dm.jy fs) σ H Q):Ra (tDA fs) σ H Q:=by
 obtain⟨H0,ρ,x,ρ',st,e,k⟩:=h;unfold Dm.jy at e;split at e
 ·cases e
 rename_i xs ρ1 e1;split at e
 ·cases e
 rename_i ds ρ2 e2;split at e
 ·rename_i hz;cases e;refine⟨H0,ρ,xs,ρ1,st,e1,fun vs H1 Hb t1 r1=>?_⟩;obtain⟨H2,t2,b2,r2⟩:=takes t1 (aJ.refl _) r1 e2;refine⟨by rw[r2.length];exact v_ hz,fun p hp=>?_⟩;have g:=aW.Hr (o:=HO.tup vs) t2.st.same hp;exact k _ _ _ (t2.trans (.grow t2.st g)) (.tup aL (r2.mono g.s0))
 ·cases e
theorem Ro(h:tD (Dm.jz fs) σ H Q):GU (tDA fs) σ H Q:=by
 obtain⟨H0,ρ,x,ρ',st,e,k⟩:=h;unfold Dm.jz at e;split at e
 ·cases e
 rename_i xs ρ1 e1;split at e
 ·cases e
 rename_i ds ρ2 e2;split at e
 ·rename_i hz;cases e;refine⟨H0,ρ,xs,ρ1,st,e1,fun vs H1 Hb t1 r1=>?_⟩;obtain⟨H2,t2,b2,r2⟩:=takes t1 (aJ.refl _) r1 e2;refine⟨by rw[r2.length];exact v_ hz,fun p hp=>?_⟩;have g:=aW.wX (o:=HO.lst vs) t2.st.same hp;refine k _ _ _ (t2.trans (.grow t2.st g)) ⟨p,rfl,t2.stp.gone hp,fun⟨i,d,h1,h2⟩=>?_,t2.st.same.free hp,vs,aL,r2⟩;obtain⟨a,q,_,w⟩:=t2.st.ow i d h1;rw[h2]at q;cases q;obtain⟨o,z⟩:=w.some;rw[hp]at z;cases z
 ·cases e
theorem Rep.plain{H0 H1:Hp}(r:Rep H0 v d)(n:Dm.lK d=false):Rep H1 v d:=by
 cases r with
 |non=>exact .non
 |bl b=>exact .bl b
 |int i=>exact .int i
 |str s=>exact .str s
 |tup _ _=>cases n
 |lst _ _=>cases n
 |dct _ _ _=>cases n
 |dcp _ _ _=>cases n
 |exc _=>cases n
 |cY _ _=>cases n
 |fn a=>exact .fn a
theorem Own.box{H0 H:Hp}{a:Addr}(w:Own H0 H a d):Dm.lK d=true:=by
 cases d with
 |lst ds=>rfl
 |dct ks ds=>rfl
 |dcp ks ds=>rfl
 |_=>exact Vx w
theorem OE{f:List Dat->Option RV}{E:XK}(h:tD (Dm.eF f fs) σ H Q):A3 (spD f) [] E (tDA fs) σ H Q:=by
 obtain⟨H0,ρ,x,ρ',st,e,k⟩:=h;unfold Dm.eF at e;split at e
 ·cases e
 rename_i xs ρ1 e1;split at e
 ·cases e
 rename_i ds p1;split at e
 ·cases e
 rename_i z fz;refine⟨H0,ρ,xs,ρ1,st,e1,fun vs H1 Hb t1 r1=>?_⟩;dsimp only;rw[VQ];obtain⟨ρ2,e2⟩:=pA p1;obtain⟨H2,t2,b2,r2⟩:=takes t1 (aJ.refl _) r1 e2;split at e
 ·rw[e2]at e;cases e;exact⟨H2,ds,z,t2.st.same,r2,fz,fun w H3 Hd g3 r3=>k w H3 Hd (t2.trans (.grow t2.st g3)) ((r3.toV t2.st).early fun a n=>t2.stp.gone n)⟩
 ·rename_i nb;cases e;refine⟨H2,ds,z,t2.st.same,r2,fz,fun w H3 Hd g3 r3=>?_⟩;have g:aW H1 Hb H1 Hd:=⟨aJ.refl _,g3.s1,fun a o q=>.inr q,t1.st.same.trans g3.s1⟩
  refine k w H1 Hd (t1.trans (.grow t1.st g)) ?_;cases z with
  |val d=>exact Rep.plain r3 (by simpa [RV.dat] using nb)
  |new d=>obtain⟨a,_,_,_,w⟩:=r3;exact absurd w.box (by simpa [RV.dat] using nb)
theorem Rep.Bd{c:Bool}(r:Rep H0 v (.bl c)):v=.bl c:=by cases r;rfl
theorem Rep.isInt{c:Int}(r:Rep H0 v (.int c)):v=.int c:=by cases r;rfl
theorem Rp{a b:FE}(h:tD (Dm.vh a b) σ H Q):MH (tD a) (tD b) σ H Q:=by
 obtain⟨H0,ρ,x,ρ',st,e,k⟩:=h;unfold Dm.vh at e;split at e
 ·rename_i ρ1 e1;refine⟨H0,ρ,_,_,st,e1,fun v H1 Hb t1 r1=>⟨true,Rep.Bd r1,?_⟩⟩
  try dsimp only
  rw[if_pos rfl];exact⟨H1,ρ1,x,ρ',t1.st,e,fun v H2 Hc t2 r2=>k v H2 Hc (t1.trans t2) (r2.early fun a n=>t1.stp.gone n)⟩
 ·rename_i ρ1 e1;cases e;refine⟨H0,ρ,_,_,st,e1,fun v H1 Hb t1 r1=>⟨false,Rep.Bd r1,?_⟩⟩
  try dsimp only
  rw[if_neg VL];exact k _ H1 Hb t1 (Rep.bl false)
 ·cases e
theorem Rq(h:tD (Dm.FG a) σ H Q):MK (tD a) σ H Q:=by
 obtain⟨H0,ρ,x,ρ',st,e,k⟩:=h;unfold Dm.FG at e;split at e
 ·rename_i c ρ1 e1;cases e;exact⟨H0,ρ,_,_,st,e1,fun v H1 Hb t1 r1=>⟨c,Rep.Bd r1,k _ H1 Hb t1 (Rep.bl (!c))⟩⟩
 ·cases e
variable{Qt:Bool->Hp->Prop}
theorem wY(h:tDT (Dm.tV a) σ H Qt):MQ (tD a) σ H Qt:=by
 obtain⟨H0,ρ,x,ρ',st,e,k⟩:=h;unfold Dm.tV at e;split at e
 ·rename_i c ρ1 e1;cases e;exact⟨H0,ρ,_,_,st,e1,fun v H1 Hb t1 r1=>⟨_,Rep.Bd r1,k H1 Hb t1⟩⟩
 ·cases e
theorem OG{t:FT}(h:tDT (Dm.sV t) σ H Qt):sV (tDT t) σ H Qt:=by
 obtain⟨H0,ρ,x,ρ',st,e,k⟩:=h;unfold Dm.sV at e;split at e
 ·rename_i c ρ1 e1;cases e;exact⟨H0,ρ,_,_,st,e1,fun H1 Hb t1=>k H1 Hb t1⟩
 ·cases e
theorem OH(h:tDT (Dm.o7 t u) σ H Qt):o7 (tDT t) (tDT u) σ H Qt:=by
 obtain⟨H0,ρ,x,ρ',st,e,k⟩:=h;unfold Dm.o7 at e;split at e
 ·rename_i ρ1 e1;refine⟨H0,ρ,_,ρ1,st,e1,fun H1 Hb t1=>?_⟩;dsimp only;rw[if_pos rfl];exact⟨H1,ρ1,x,ρ',t1.st,e,fun H2 Hc t2=>k H2 Hc (t1.trans t2)⟩
 ·rename_i ρ1 e1;cases e;refine⟨H0,ρ,_,_,st,e1,fun H1 Hb t1=>?_⟩;dsimp only;rw[if_neg VL];exact k H1 Hb t1
 ·cases e
theorem Rt(h:tDT (Dm.tOr t u) σ H Qt):tOr (tDT t) (tDT u) σ H Qt:=by
 obtain⟨H0,ρ,x,ρ',st,e,k⟩:=h;unfold Dm.tOr at e;split at e
 ·rename_i ρ1 e1;cases e;refine⟨H0,ρ,_,_,st,e1,fun H1 Hb t1=>?_⟩;dsimp only;rw[if_pos rfl];exact k H1 Hb t1
 ·rename_i ρ1 e1;refine⟨H0,ρ,_,ρ1,st,e1,fun H1 Hb t1=>?_⟩;dsimp only;rw[if_neg VL];exact⟨H1,ρ1,x,ρ',t1.st,e,fun H2 Hc t2=>k H2 Hc (t1.trans t2)⟩
 ·cases e
end
end
section
variable{ρ:Dm.Env}{H0 H:Hp}{σ:L2.St}
structure SSt(σ:St)(ρ:Dm.Env)(H0 H:Hp)(σ':St)(ρ':Dm.Env)(H0' H':Hp):Prop where
 st:aM H0' H' σ' ρ'
 stp:Stp (aE σ ρ) H0 H H0' H'
 own:∀a,aE σ' ρ' a->aE σ ρ a\/H a=none
 fx:σ'[0]?=σ[0]?
theorem ESt.sst{σ:St}{ρ ρ':Dm.Env}{H0 H H0' H':Hp}(t:ESt σ ρ H0 H ρ' H0' H'):SSt σ ρ H0 H σ ρ' H0' H':=⟨t.st,t.stp,fun a z=>.inl (t.own a z),rfl⟩
theorem SSt.refl{σ:St}(st:aM H0 H σ ρ):SSt σ ρ H0 H σ ρ H0 H:=(ESt.refl st).sst
theorem SSt.trans{σ σ1 σ2:St}{ρ ρ1 ρ2:Dm.Env}{H0 H H1 H' H2 H'':Hp}(t:SSt σ ρ H0 H σ1 ρ1 H1 H')(u:SSt σ1 ρ1 H1 H' σ2 ρ2 H2 H''):SSt σ ρ H0 H σ2 ρ2 H2 H'':=
 ⟨u.st,t.stp.trans u.stp t.own,fun a z=>(u.own a z).elim (t.own a) fun n=>.inr (t.stp.gone n),u.fx.trans t.fx⟩
def Hu(σ:St)(ρ:Dm.Env)(H H0' H':Hp)(v:V):RV->Prop
 |.val d=>Rep H0' v d
 |.new d=>∃a,v=V.ref a/\(H a=none\/aE σ ρ a)/\H0' a=none/\Own H0' H' a d
def wZ(D:Ends)(σ:St)(ρ:Dm.Env)(H0 H:Hp):Dm.Out->Prop
 |.nx ρ'=>∀σ' H0' H',SSt σ ρ H0 H σ' ρ' H0' H'->D.nx σ' H'
 |.bk ρ'=>∀σ' H0' H',SSt σ ρ H0 H σ' ρ' H0' H'->D.bk σ' H'
 |.ct ρ'=>∀σ' H0' H',SSt σ ρ H0 H σ' ρ' H0' H'->D.ct σ' H'
 |.ret z ρ'=>∀σ' v H0' H',SSt σ ρ H0 H σ' ρ' H0' H'->Hu σ ρ H H0' H' v z->(∀d a,z=.new d->v=.ref a->¬aE σ' ρ' a)->D.rt v H'
def tDS(g:FS):TS:=fun D σ H=>∃H0 ρ o,aM H0 H σ ρ/\g ρ=some o/\wZ D σ ρ H0 H o
theorem wZ.pre{D:Ends}{σ σ1:St}{ρ ρ1:Dm.Env}{H0 H H1 H':Hp}{o:Dm.Out}(t:SSt σ ρ H0 H σ1 ρ1 H1 H')(k:wZ D σ ρ H0 H o):wZ D σ1 ρ1 H1 H' o:=by
 cases o with
 |nx ρ'=>exact fun σ' H0' H' u=>k σ' H0' H' (t.trans u)
 |bk ρ'=>exact fun σ' H0' H' u=>k σ' H0' H' (t.trans u)
 |ct ρ'=>exact fun σ' H0' H' u=>k σ' H0' H' (t.trans u)
 |ret z ρ'=>
  refine fun σ' v H0' H'' u r no=>k σ' v H0' H'' (t.trans u) ?_ no;cases z with
  |val d=>exact r
  |new d=>
   obtain⟨a,e,n,n0,w⟩:=r;refine⟨a,e,?_,n0,w⟩;rcases n with n | n
   ·exact .inl (t.stp.gone n)
   ·exact(t.own a n).symm
theorem aM.mask(st:aM H0 H σ ρ)(i:Nat):aM H0 H σ (ρ.set i .un) where
 same:=st.same
 len:=by rw[VT];exact st.len
 sh:=fun j d h=>by
  by_cases q:i=j
  ·subst q;rw[W8]at h;simp only[if_true]at h;split at h<;>cases h
  ·rw[gc q]at h;exact st.sh j d h
 ow:=fun j d h=>by
  by_cases q:i=j
  ·subst q;rw[W8]at h;simp only[if_true]at h;split at h<;>cases h
  ·rw[gc q]at h;exact st.ow j d h
 dis:=fun j j' d d' a h1 h2 h3 h4=>by
  by_cases q:i=j
  ·subst q;rw[W8]at h1;simp only[if_true]at h1;split at h1<;>cases h1
  ·by_cases q':i=j'
   ·subst q';rw[W8]at h2;simp only[if_true]at h2;split at h2<;>cases h2
   ·rw[gc q]at h1;rw[gc q']at h2;exact st.dis j j' d d' a h1 h2 h3 h4
theorem iH{i:Nat}{a:Addr}(h:aE σ (ρ.set i .un) a):∃(j:Nat) (d:Dat),j≠i/\ρ[j]?=some (Dm.Cell.ow d)/\σ[j]?=some (some (V.ref a)):=by
 obtain⟨j,d,h1,h2⟩:=h;by_cases q:i=j
 ·subst q;rw[W8]at h1;simp only[if_true]at h1;split at h1<;>cases h1
 ·rw[gc q]at h1;exact⟨j,d,fun z=>q z.symm,h1,h2⟩
end
section
variable{D:Ends}{σ:St}{H:Hp}
theorem Uc(h:tDS Dm.sNx D σ H):ML D σ H:=by obtain⟨H0,ρ,o,st,e,k⟩:=h;cases e;exact k σ H0 H (.refl st)
theorem Ru{s u:FS}(h:tDS (Dm.aR s u) D σ H):CL (tDS s) (tDS u) D σ H:=by
 obtain⟨H0,ρ,o,st,e,k⟩:=h;unfold Dm.aR at e;split at e
 ·rename_i ρ1 e1;exact⟨H0,ρ,.nx ρ1,st,e1,fun σ' H0' H' t=>⟨H0',ρ1,o,t.st,e,k.pre t⟩⟩
 ·rename_i h1;cases o with
  |nx ρ1=>exact absurd e (h1 ρ1)
  |bk ρ1=>exact⟨H0,ρ,_,st,e,k⟩
  |ct ρ1=>exact⟨H0,ρ,_,st,e,k⟩
  |ret z ρ1=>exact⟨H0,ρ,_,st,e,k⟩
theorem OI{f:FE}(h:tDS (Dm.sE f) D σ H):AX (tD f) D σ H:=by
 obtain⟨H0,ρ,o,st,e,k⟩:=h;unfold Dm.sE at e;split at e
 ·cases e
 ·rename_i x ρ1 e1;cases e;exact⟨H0,ρ,x,ρ1,st,e1,fun v H0' H' t r=>k σ H0' H' t.sst⟩
theorem Rv{f:FE}(h:tDS (Dm.sR f) D σ H):QZ (tD f) D σ H:=by
 obtain⟨H0,ρ,o,st,e,k⟩:=h;unfold Dm.sR at e;split at e
 ·cases e
 ·rename_i d ρ1 e1;cases e;refine⟨H0,ρ,_,ρ1,st,e1,fun v H0' H' t r=>?_⟩;obtain⟨a,e,n,no,n0,w⟩:=r;exact k σ v H0' H' t.sst ⟨a,e,.inl n,n0,w⟩ fun d' a' _ e' z=>by rw[e]at e';cases e';exact no z
 ·rename_i d ρ1 e1;cases e;exact⟨H0,ρ,_,ρ1,st,e1,fun v H0' H' t r=>k σ v H0' H' t.sst r fun d' a' z=>by cases z⟩
 ·rename_i i ρ1 e1;split at e
  ·rename_i d h1;cases e;refine⟨H0,ρ,_,ρ1,st,e1,fun v H0' H' t r=>?_⟩;obtain⟨q,_⟩:=r;obtain⟨a,q',n0,w⟩:=t.st.ow i d h1;rw[q]at q';cases q';refine k σ _ H0' H' ⟨t.st.mask i,t.stp,fun b z=>?_,rfl⟩ ⟨a,rfl,.inr (t.own a ⟨i,d,h1,q⟩),n0,w⟩ fun d' a' _ e' z=>?_
   ·obtain⟨j,d2,_,z1,z2⟩:=iH z;exact .inl (t.own b ⟨j,d2,z1,z2⟩)
   ·cases e';obtain⟨j,d2,hj,z1,z2⟩:=iH z;exact hj (t.st.dis j i d2 d a z1 h1 z2 q)
  ·rename_i d h1;cases e;refine⟨H0,ρ,_,ρ1,st,e1,fun v H0' H' t r=>?_⟩;obtain⟨q,_⟩:=r;obtain⟨u,q',w⟩:=t.st.sh i d h1;rw[q]at q';cases q';exact k σ _ H0' H' t.sst w fun d' a' z=>by cases z
  ·cases e
theorem Rw{t:FT}{a b:FS}(h:tDS (Dm.sIf t a b) D σ H):N2 (tDT t) (tDS a) (tDS b) D σ H:=by
 obtain⟨H0,ρ,o,st,e,k⟩:=h;unfold Dm.sIf at e;split at e
 ·cases e
 ·rename_i ρ1 e1;refine⟨H0,ρ,true,ρ1,st,e1,fun H1 Hb t1=>?_⟩;dsimp only;rw[if_pos rfl];exact⟨H1,ρ1,o,t1.st,e,k.pre t1.sst⟩
 ·rename_i ρ1 e1;refine⟨H0,ρ,false,ρ1,st,e1,fun H1 Hb t1=>?_⟩;dsimp only;rw[if_neg VL];exact⟨H1,ρ1,o,t1.st,e,k.pre t1.sst⟩
end
section
variable{ρ:Dm.Env}{σ:St}{i:Nat}{H0 H:Hp}{d:Dat}{a:Addr}{b:Addr}{o:HO}{v:V}
theorem l6{i j:Nat}{c d:Option V}(h:(σ.set i c)[j]?=some d):(j=i/\d=c)\/(j≠i/\σ[j]?=some d):=by
 by_cases e:j=i
 ·subst e;by_cases l:j<σ.length
  ·rw[Vz l]at h;exact .inl ⟨rfl,(Option.some.inj h).symm⟩
  ·rw[VJ (by simpa using Xs.mp l)]at h;cases h
 ·rw[gc (VS e)]at h;exact .inr ⟨e,h⟩
theorem aM.inσ{c d:Dm.Cell}(st:aM H0 H σ ρ)(h:(ρ.set i c)[i]?=some d):i<σ.length:=by have:=(Vm.mp h).1;rw[VT]at this;rw[st.len];exact this
theorem gA(h:aE (σ.set i (some v)) (ρ.set i (.sh d)) b):aE σ ρ b:=by
 obtain⟨j,d',h1,h2⟩:=h;rcases bf h1 with⟨_,z⟩ | ⟨hj,h1⟩
 ·cases z
 ·rcases l6 h2 with⟨z,_⟩ | ⟨_,h2⟩
  ·exact absurd z hj
  ·exact⟨j,d',h1,h2⟩
theorem aM.w_(st:aM H0 H σ ρ)(r:Rep H0 v d):aM H0 H (σ.set i (some v)) (ρ.set i (.sh d)) where
 same:=st.same
 len:=by rw[VT,VT];exact st.len
 sh:=fun j d' h=>by
  rcases bf h with⟨rfl,z⟩ | ⟨hj,h'⟩
  ·cases z;exact⟨v,Vz (st.inσ h),r⟩
  ·obtain⟨u,q,w⟩:=st.sh j d' h';exact⟨u,by rw[gc (VS hj)];exact q,w⟩
 ow:=fun j d' h=>by
  rcases bf h with⟨_,z⟩ | ⟨hj,h'⟩
  ·cases z
  ·obtain⟨u,q,w⟩:=st.ow j d' h';exact⟨u,by rw[gc (VS hj)];exact q,w⟩
 dis:=fun j k d1 d2 b h1 h2 h3 h4=>by
  rcases bf h1 with⟨_,z⟩ | ⟨hj,h1⟩
  ·cases z
  rcases bf h2 with⟨_,z⟩ | ⟨hk,h2⟩
  ·cases z
  rw[gc (VS hj)]at h3;rw[gc (VS hk)]at h4;exact st.dis j k d1 d2 b h1 h2 h3 h4
theorem aM.C2(st:aM H0 H σ ρ)(no:¬aE σ ρ a)(n0:H0 a=none)(w:Own H0 H a d):aM H0 H (σ.set i (some (.ref a))) (ρ.set i (.ow d)) where
 same:=st.same
 len:=by rw[VT,VT];exact st.len
 sh:=fun j d' h=>by
  rcases bf h with⟨_,z⟩ | ⟨hj,h'⟩
  ·cases z
  ·obtain⟨u,q,w⟩:=st.sh j d' h';exact⟨u,by rw[gc (VS hj)];exact q,w⟩
 ow:=fun j d' h=>by
  rcases bf h with⟨rfl,z⟩ | ⟨hj,h'⟩
  ·cases z;exact⟨a,Vz (st.inσ h),n0,w⟩
  ·obtain⟨u,q,w⟩:=st.ow j d' h';exact⟨u,by rw[gc (VS hj)];exact q,w⟩
 dis:=fun j k d1 d2 b h1 h2 h3 h4=>by
  rcases bf h1 with⟨e1,z1⟩ | ⟨hj,h1'⟩
  ·rcases bf h2 with⟨e2,z2⟩ | ⟨hk,h2'⟩
   ·rw[e1,e2]
   ·rcases l6 h3 with⟨_,z⟩ | ⟨z,_⟩
    ·cases z;rw[gc (VS hk)]at h4;exact absurd ⟨k,d2,h2',h4⟩ no
    ·exact absurd e1 z
  ·rcases bf h2 with⟨e2,z2⟩ | ⟨hk,h2'⟩
   ·rcases l6 h4 with⟨_,z⟩ | ⟨z,_⟩
    ·cases z;rw[gc (VS hj)]at h3;exact absurd ⟨j,d1,h1',h3⟩ no
    ·exact absurd e2 z
   ·rw[gc (VS hj)]at h3;rw[gc (VS hk)]at h4;exact st.dis j k d1 d2 b h1' h2' h3 h4
theorem ji{a b:Addr}(h:aE (σ.set i (some (.ref a))) (ρ.set i (.ow d)) b):b=a\/aE σ ρ b:=by
 obtain⟨j,d',h1,h2⟩:=h;rcases bf h1 with⟨e,_⟩ | ⟨hj,h1⟩
 ·rcases l6 h2 with⟨_,z⟩ | ⟨z,_⟩
  ·cases z;exact .inl rfl
  ·exact absurd e z
 ·rcases l6 h2 with⟨z,_⟩ | ⟨_,h2⟩
  ·exact absurd z hj
  ·exact .inr ⟨j,d',h1,h2⟩
theorem aM.write{d d':Dat}(st:aM H0 H σ ρ)(e:ρ[i]?=some (.ow d))(q:σ[i]?=some (some (V.ref a)))(w':Own H0 (upd H a o) a d') :
  aM H0 (upd H a o) σ (ρ.set i (.ow d')):=by
 obtain⟨a',q',n,w⟩:=st.ow i d e;rw[q]at q';cases q';refine⟨fun b u z=>?_,by rw[VT];exact st.len,fun j d1 h=>?_,fun j d1 h=>?_,fun j k d1 d2 b h1 h2 h3 h4=>?_⟩
 ·rw[aH (aT z n)];exact st.same _ _ z
 ·rcases bf h with⟨_,z⟩ | ⟨hj,h'⟩
  ·cases z
  ·exact st.sh j d1 h'
 ·rcases bf h with⟨rfl,z⟩ | ⟨hj,h'⟩
  ·cases z;exact⟨a,q,n,w'⟩
  ·obtain⟨b,q1,n1,w1⟩:=st.ow j d1 h';have nb:b≠a:=fun y=>hj (st.dis j i d1 d a h' e (y▸q1) q);exact⟨b,q1,n1,w1.mono (aJ.refl _) (aH nb)⟩
 ·have f:∀{j:Nat} {d1:Dat},(ρ.set i (.ow d'))[j]?=some (.ow d1)->∃d2,ρ[j]?=some (.ow d2):=fun {j d1} h=>by
   rcases bf h with⟨rfl,_⟩ | ⟨_,h'⟩
   ·exact⟨d,e⟩
   ·exact⟨d1,h'⟩
  obtain⟨x1,y1⟩:=f h1;obtain⟨x2,y2⟩:=f h2;exact st.dis j k x1 x2 b y1 y2 h3 h4
theorem cZ{d d':Dat}(e:ρ[i]?=some (.ow d))(h:aE σ (ρ.set i (.ow d')) b):aE σ ρ b:=by
 obtain⟨j,d1,h1,h2⟩:=h;rcases bf h1 with⟨rfl,_⟩ | ⟨_,h'⟩
 ·exact⟨j,d,e,h2⟩
 ·exact⟨j,d1,h',h2⟩
theorem Stp.write(w:aE σ ρ a):Stp (aE σ ρ) H0 H H0 (upd H a o):=
 ⟨aJ.refl _,fun b u e n=>by rw [aH (show b≠a from fun z=>n (by rw [z];exact w))];exact e,fun b u e=>.inr (.inl e),fun b u e=>by
  by_cases z:b=a
  ·subst z;exact⟨o,aL⟩
  ·exact⟨u,by rw[aH z];exact e⟩⟩
end
section
variable{D:Ends}{σ:St}{H:Hp}
section
variable{ρ:Dm.Env}{body:FS}{f:FE}{a:Addr}{is:List Nat}{i:Nat}{ds:List Dat}{d:Dat}{bd:Dm.FB}{xs:List V}{vs:List V}{n:Nat}{H0:Hp}{k:Nat}{fi:Dm.FI}{t:FT}{g:TG}{o:HO}{Q:VK}{E:XK}
theorem Hv(h:tDS (Dm.sA i f) D σ H):AY (tD f) (lJ i) D σ H:=by
 obtain⟨H0,ρ,o,st,e,k⟩:=h;unfold Dm.sA at e;split at e
 ·cases e
 rename_i hi0;split at e
 ·cases e
 ·rename_i d ρ1 e1;cases e;refine⟨H0,ρ,_,ρ1,st,e1,fun v H0' H' t r=>?_⟩;obtain⟨a,e,n,no,n0,w⟩:=r;subst e;refine k _ H0' H' ⟨t.st.C2 no n0 w,t.stp,fun b z=>?_,gc hi0⟩;rcases ji z with rfl | z
  ·exact .inr n
  ·exact .inl (t.own b z)
 ·rename_i x ρ1 _ e1;split at e
  ·cases e
  ·rename_i d ρ2 e2;cases e;refine⟨H0,ρ,_,ρ1,st,e1,fun v H0' H' t r=>?_⟩;obtain⟨H1,t1,b1,r1,_,_⟩:=take1 t (aJ.refl _) r e2;exact k _ H1 H' ⟨t1.st.w_ r1,t1.stp,fun b z=>.inl (t1.own b (gA z)),gc hi0⟩
theorem Et{j:Nat}(h:Def ρ j):Def (ρ.set i (.sh d)) j:=trivial
noncomputable def pB:List Nat->TGs
 |[]=>Q2
 |i::is=>MM (lJ i) (pB is)
theorem Eu{H0 H:Hp}{Q:St->Hp->Prop}:∀{is:List Nat} {xs:List V} {ds:List Dat} {σ:St} {ρ ρ':Dm.Env},aM H0 H σ ρ->aN H0 xs ds->Dm.sets is ds ρ=some ρ' ->
  (∀σ',aM H0 H σ' ρ'->(∀a,aE σ' ρ' a->aE σ ρ a)->(∀j,j∉is->σ'[j]?=σ[j]?)->(∀j,Def ρ j->Def ρ' j)->σ'[0]?=σ[0]?->Q σ' H)->pB is xs σ H Q
 |[],_,[],σ,ρ,ρ',st,r,e,k=>by cases r;cases e;exact⟨rfl,k σ st (fun _ z=>z) (fun _ _=>rfl) (fun _ z=>z) rfl⟩
 |i::is,_,d::ds,σ,ρ,ρ',st,r,e,k=>by
  cases r with
  |cons h r=>
   unfold Dm.sets at e;split at e
   ·cases e
   rename_i hi0;refine⟨_,_,rfl,?_⟩;refine Eu (st.w_ h) r e fun σ' st' o' n' d' f'=>k σ' st' (fun a z=>gA (o' a z)) (fun j hj=>?_) (fun j z=>d' j (Et z)) (f'.trans (gc hi0));rw[n' j fun z=>hj (Ds _ z)];exact gc fun z=>hj (by rw[z];exact PU)
 |[],_,_::_,_,_,_,_,_,e,_=>by cases e
 |_::_,_,[],_,_,_,_,_,e,_=>by cases e
theorem Be:∀{is:List Nat} {ds:List Dat} {ρ ρ':Dm.Env},Dm.sets is ds ρ=some ρ'->ds.length=is.length
 |[],[],_,_,_=>rfl
 |i::is,_::ds,_,_,e=>by
  unfold Dm.sets at e;split at e
  ·cases e
  ·simp[Be (is:=is) (ds:=ds) e]
 |[],_::_,_,_,e=>by cases e
 |_::_,[],_,_,e=>by cases e
def BD(is:List Nat)(g:TG)(bd:Dm.FB):Prop:=∀(H0 H:Hp) (σ:St) (ρ ρ':Dm.Env) (x:V) (d:Dat) (Q:St->Hp->Prop),aM H0 H σ ρ->Rep H0 x d->bd d ρ=some ρ' ->
 (∀σ',aM H0 H σ' ρ'->(∀a,aE σ' ρ' a->aE σ ρ a)->(∀j,j∉is->σ'[j]?=σ[j]?)->(∀j,Def ρ j->Def ρ' j)->σ'[0]?=σ[0]?->Q σ' H)->g x σ H Q
theorem Ew(i:Nat):BD [i] (lJ i) (Dm.bN i):=by
 intro H0 H σ ρ ρ' x d Q st r e k;unfold Dm.bN at e;split at e
 ·cases e
 rename_i hi0;cases e;refine k _ (st.w_ r) (fun a z=>gA z) (fun j hj=>?_) (fun j h=>Et h) (gc hi0);exact gc (fun z=>hj (by rw[z];exact Vw.mpr rfl))
theorem OJ{K:Dk}(is:List Nat)(hn:is.length=n):BD is (Q3 K n (pB is)) (Dm.bT is):=by
 intro H0 H σ ρ ρ' x d Q st r e k;unfold Dm.bT at e;split at e
 ·cases r with
  |tup q rs=>exact⟨_,_,rfl,SqT.of (st.same _ _ q),by rw[rs.length,Be e,hn],Eu st rs e k⟩
 ·cases e
theorem Rx{K:Dk}(h:tDS (Dm.Ba i f) D σ H):AX (tBM K "list" z6 (yE i) (tDA [f])) D σ H:=by
 obtain⟨H0,ρ,o,st,e,k⟩:=h;unfold Dm.Ba at e;split at e
 ·rename_i ds0 h0;obtain⟨a0,q0,n0,w0⟩:=st.ow i _ h0;refine⟨_,q0,?_⟩;split at e
  ·cases e
  rename_i x ρ1 e1;split at e
  ·cases e
  rename_i d ρ2 e2;split at e
  ·rename_i ds h2;split at e
   ·rename_i hz;cases e;obtain⟨xs0,y0,_⟩:=w0;refine⟨.inl ⟨rfl,xs0,.inl (.inl y0)⟩,?_⟩;refine⟨H0,ρ,[x],ρ1,st,by unfold Dm.eAs;rw[e1];rfl,fun vs H0' H' t r=>?_⟩;cases r with
    |cons r rr=>
     cases rr;obtain⟨H1,t1,b1,r1,_,_⟩:=take1 t (aJ.refl _) r e2;obtain⟨a,q,n,w⟩:=t1.st.ow i _ h2;rw[q0]at q;cases q;obtain⟨xs,y,rs⟩:=w;refine⟨a0,xs,_,rfl,rfl,y,by rw[rs.length];exact Vr hz (by decide),?_⟩;have ow:aE σ ρ2 a0:=⟨i,_,h2,q0⟩
     refine k σ H1 _ ⟨t1.st.write h2 q0 ⟨_,aL,rs.append (.cons r1 .nil)⟩,t1.stp.trans (Stp.write ow) fun b z=>.inl (t1.own b z),fun b z=>.inl (t1.own b (cZ h2 z)),rfl⟩
   ·cases e
  ·cases e
 ·cases e
theorem OL(n:Nat)(i:Int):Dm.ixN n i=L2.ixN n i:=rfl
theorem Ry{j f:FE}(h:tDS (Dm.FH i j f) D σ H):AY (tD f) (vf (yE i) (tD j) MT) D σ H:=by
 obtain⟨H0,ρ,o,st,e,k⟩:=h;unfold Dm.FH at e;split at e
 ·cases e
 rename_i x ρ1 e1;split at e
 ·cases e
 rename_i d ρ2 e2;split at e
 case h_2=>cases e
 rename_i d0 h2;split at e
 ·rename_i m ρ3 e3;split at e
  ·rename_i ds h3;split at e
   ·cases e
   ·rename_i p e4;cases e;refine⟨H0,ρ,_,ρ1,st,e1,fun v H0' H' t r=>?_⟩;obtain⟨H1,t1,b1,r1,_,_⟩:=take1 t (aJ.refl _) r e2;obtain⟨a0,q0,_,_⟩:=t1.st.ow i _ h2;refine⟨_,q0,H1,ρ2,_,ρ3,t1.st,e3,fun u H2 Hc t2 r2=>?_⟩;obtain⟨a,q,n,w⟩:=t2.st.ow i _ h3;rw[q0]at q;cases q;obtain⟨xs,y,rs⟩:=w;refine⟨a0,xs,m,p,rfl,Rep.isInt r2,y,by rw[rs.length];exact e4,?_⟩;have ow:aE σ ρ3 a0:=⟨i,_,h3,q0⟩
    have tt:=t1.trans t2;refine k σ H2 _ ⟨t2.st.write h3 q0 ⟨_,aL,rs.set (r1.mono t2.stp.s0) p⟩,tt.stp.trans (Stp.write ow) fun b z=>.inl (tt.own b z),fun b z=>.inl (tt.own b (cZ h3 z)),rfl⟩
  ·cases e
 ·cases e
theorem KC(h:tDS (Dm.whD t body n) D σ H):GI (tDT t) (tDS body) D σ H:=by
 refine⟨fun m σ H=>tDS (Dm.whD t body m) D σ H,⟨n,h⟩,?_⟩;rintro m σ H ⟨H0,ρ,o,st,e,k⟩;cases m with
 |zero=>unfold Dm.whD at e;cases e
 |succ m=>
  unfold Dm.whD at e;split at e
  ·cases e
  ·rename_i ρ1 e1;cases e;refine⟨H0,ρ,false,ρ1,st,e1,fun H1 Hb t1=>?_⟩;dsimp only;rw[if_neg VL];exact k σ H1 Hb t1.sst
  ·rename_i ρ1 e1;refine⟨H0,ρ,true,ρ1,st,e1,fun H1 Hb t1=>?_⟩;dsimp only;rw[if_pos rfl];refine⟨fun σ' H'=>tDS (Dm.whD t body m) D σ' H',fun σ' H' q=>⟨m,Nat.lt_succ_self m,q⟩,?_⟩;have k1:=k.pre t1.sst;split at e
   ·rename_i ρ2 e2;exact⟨H1,ρ1,_,t1.st,e2,fun σ' H0' H' t2=>⟨H0',ρ2,o,t2.st,e,k1.pre t2⟩⟩
   ·rename_i ρ2 e2;exact⟨H1,ρ1,_,t1.st,e2,fun σ' H0' H' t2=>⟨H0',ρ2,o,t2.st,e,k1.pre t2⟩⟩
   ·rename_i ρ2 e2;cases e;exact⟨H1,ρ1,_,t1.st,e2,k1⟩
   ·rename_i v ρ2 e2;cases e;exact⟨H1,ρ1,_,t1.st,e2,k1⟩
   ·cases e
def JW(J:It)(H00:Hp)(ys:List Dat):Prop:=∀H0 H,aJ H00 H0->aJ H0 H->(∀i,ys.length<=i->J.stop i H) /\
 ∀(i:Nat) (d:Dat),ys[i]?=some d->J.go i H/\∀x H',J.yld i H x H'->∃H0',aW H0 H H0' H'/\Rep H0' x d
def tDI(fi:Dm.FI):TI:=fun σ H R=>∃H0 ρ ys ρ',aM H0 H σ ρ/\fi ρ=some (ys,ρ')/\∀J H0' H',ESt σ ρ H0 H ρ' H0' H'->JW J H0' ys->R J H'
theorem Rz(hb:BD is g bd)(h:tDS (Dm.tu fi bd body) D σ H):N9 (tDI fi) g (tDS body) D σ H:=by
 obtain⟨H0,ρ,o,st,e,k⟩:=h;unfold Dm.tu at e;split at e
 ·cases e
 rename_i ys ρ1 e1;refine⟨H0,ρ,ys,ρ1,st,e1,fun J H00 Hb t1 jw=>?_⟩;refine ⟨fun i m σ H=>∃ H0 ρ o,aM H0 H σ ρ∧aJ H00 H0∧m=ys.length-i∧i≤ys.length∧Dm.s_ bd body (ys.drop i) ρ=some o∧wZ D σ ρ H0 H o,
  ⟨ys.length,H00,ρ1,o,t1.st,aJ.refl _,by simp,VN _,by simpa using e,k.pre t1.sst⟩,?_⟩
 rintro i m σ H ⟨H0,ρ,o,st,s00,rfl,hi,e,k⟩;obtain⟨js,jg⟩:=jw H0 H s00 st.same;by_cases Qc:i<ys.length
 ·have hd:ys[i]?=some ys[i]:=by simp[Qc]
  obtain⟨g1,g2⟩:=jg i ys[i] hd;rw[Wh Qc]at e;unfold Dm.s_ at e;refine .inr ⟨g1,fun σ' H'=>∃H0 ρ o,aM H0 H' σ' ρ/\aJ H00 H0/\Dm.s_ bd body (ys.drop (i+1)) ρ=some o/\wZ D σ' ρ H0 H' o,?_,fun x H' y=>?_⟩
  ·rintro σ' H' ⟨H0',ρ',o',h1,h2,h3,h4⟩;exact⟨ys.length-(i+1),by lia,H0',ρ',o',h1,h2,rfl,Qc,h3,h4⟩
  ·obtain⟨H0',gr,rx⟩:=g2 x H' y;split at e
   ·cases e
   ·rename_i ρ2 e2;have t2:=ESt.grow st gr;refine hb H0' H' σ ρ ρ2 x ys[i] _ t2.st rx e2 fun σ2 st2 o2 _ _ f2=>?_;have t3:SSt σ ρ H0 H σ2 ρ2 H0' H':=⟨st2,t2.stp,fun a z=>.inl (o2 a z),f2⟩
    have k3:=k.pre t3;have s3:aJ H00 H0':=s00.trans gr.s0;split at e
    ·rename_i ρ3 e3;exact⟨H0',ρ2,_,st2,e3,fun σ4 H4 Hd t4=>⟨H4,ρ3,o,t4.st,s3.trans t4.stp.s0,e,k3.pre t4⟩⟩
    ·rename_i ρ3 e3;exact⟨H0',ρ2,_,st2,e3,fun σ4 H4 Hd t4=>⟨H4,ρ3,o,t4.st,s3.trans t4.stp.s0,e,k3.pre t4⟩⟩
    ·rename_i ρ3 e3;cases e;exact⟨H0',ρ2,_,st2,e3,k3⟩
    ·rename_i v ρ3 e3;cases e;exact⟨H0',ρ2,_,st2,e3,k3⟩
    ·cases e
 ·have e':i=ys.length:=by lia
  subst e';rw[XU]at e;cases e;exact .inl ⟨js _ (Nat.le_refl _),k σ H0 H (.refl st)⟩
theorem KD{K:Dk}(hq:Rd H0 a (.lst xs))(rs:aN H0 xs ds):JW (Itl K a) H0 ds:=by intro H0' H s0 s1;have q:SqL K H a xs:=.inl (aJ.rd s1 (aJ.rd s0 hq));refine⟨fun i hi=>⟨xs,q,by rw[rs.length];exact hi⟩,fun i d e=>?_⟩;obtain⟨v,hv,rv⟩:=rs.get e;refine⟨⟨xs,v,q,hv⟩,fun x H' y=>?_⟩;obtain⟨e1,y⟩:=y;subst e1;have z:=y xs q;rw[hv]at z;cases z;exact⟨H0',aW.refl s1,rv.mono s0⟩
theorem OM{K:Dk}(hq:H0 a=some (.tup xs))(rs:aN H0 xs ds):JW (Itt K a) H0 ds:=by intro H0' H s0 s1;have q:SqT K H a xs:=.inl (.inl (s1 _ _ (s0 _ _ hq)));refine⟨fun i hi=>⟨xs,q,by rw[rs.length];exact hi⟩,fun i d e=>?_⟩;obtain⟨v,hv,rv⟩:=rs.get e;refine⟨⟨xs,v,q,hv⟩,fun x H' y=>?_⟩;obtain⟨e1,y⟩:=y;subst e1;have z:=y xs q;rw[hv]at z;cases z;exact⟨H0',aW.refl s1,rv.mono s0⟩
theorem Bf{lo:Int}:JW (Itr lo n) H0 (Dm.ups lo n):=by
 intro H0' H s0 s1;have el:(Dm.ups lo n).length=n:=by simp[Dm.ups]
 refine⟨fun i hi=>by rw[el]at hi;exact hi,fun i d e=>?_⟩;have hi:i<n:=by have:=(Vm.mp e).1;rw[el]at this;exact this
 have hd:d=.int (lo+i):=by unfold Dm.ups at e;rw[VH,Xi hi]at e;exact(Option.some.inj e).symm
 refine⟨hi,fun x H' y=>?_⟩;obtain⟨rfl,rfl⟩:=y;subst hd;exact⟨H0',aW.refl s1,.int _⟩
variable{R:It->Hp->Prop}
theorem Ud{K:Dk}(h:tDI (Dm.iL f) σ H R):AZ K (tD f) σ H R:=by
 obtain⟨H0,ρ,ys,ρ',st,e,k⟩:=h;unfold Dm.iL at e;split at e
 ·cases e
 rename_i x ρ1 e1;split at e
 ·rename_i ds ρ2 e2;cases e;refine⟨H0,ρ,_,ρ1,st,e1,fun v H0' H' t r=>?_⟩;obtain⟨H1,t1,b1,r1,_,_⟩:=take1 t (aJ.refl _) r e2;cases r1 with
  |lst q rs=>exact⟨_,rfl,⟨_,.inl (aJ.rd t1.st.same q)⟩,k _ H1 H' t1 (KD q rs)⟩
 ·cases e
theorem Ue{K:Dk}(h:tDI (Dm.iT f) σ H R):GL K (tD f) σ H R:=by
 obtain⟨H0,ρ,ys,ρ',st,e,k⟩:=h;unfold Dm.iT at e;split at e
 ·cases e
 rename_i x ρ1 e1;split at e
 ·rename_i ds ρ2 e2;cases e;refine⟨H0,ρ,_,ρ1,st,e1,fun v H0' H' t r=>?_⟩;obtain⟨H1,t1,b1,r1,_,_⟩:=take1 t (aJ.refl _) r e2;cases r1 with
  |tup q rs=>exact⟨_,rfl,⟨_,.inl (.inl (t1.st.same _ _ q))⟩,k _ H1 H' t1 (OM q rs)⟩
 ·cases e
theorem RA(h:tDI (Dm.iR1 f) σ H R):MN (tDA [f]) σ H R:=by
 obtain⟨H0,ρ,ys,ρ',st,e,k⟩:=h;unfold Dm.iR1 at e;split at e
 ·rename_i j ρ1 e1;split at e
  ·rename_i hb;cases e;refine⟨H0,ρ,[.val (.int j)],_,st,by unfold Dm.eAs;rw[e1];rfl,fun vs H0' H' t r=>?_⟩;cases r with
   |cons r rr=>cases rr;cases Rep.isInt r;have h1:=hb.1;have h2:=hb.2;unfold Dm.BIG at h1 h2;exact⟨j,rfl,by lia,by lia,k _ H0' H' t Bf⟩
  ·cases e
 ·cases e
theorem RB{f g:FE}(h:tDI (Dm.iR2 f g) σ H R):MO (tDA [f,g]) σ H R:=by
 obtain⟨H0,ρ,ys,ρ',st,e,k⟩:=h;unfold Dm.iR2 at e;split at e
 ·rename_i i ρ1 e1;split at e
  ·rename_i j ρ2 e2;split at e
   ·rename_i hb;cases e;refine⟨H0,ρ,[.val (.int i),.val (.int j)],_,st,by unfold Dm.eAs;rw[e1];dsimp only;unfold Dm.eAs;rw[e2];rfl,fun vs H0' H' t r=>?_⟩;cases r with
    |cons r rr=>
     cases rr with
     |cons r' rr=>cases rr;cases Rep.isInt r;cases Rep.isInt r';obtain⟨h1,h2,h3,h4⟩:=hb;unfold Dm.BIG at h1 h2 h3 h4;exact⟨i,j,rfl,⟨by lia,by lia,by lia,by lia⟩,k _ H0' H' t Bf⟩
   ·cases e
  ·cases e
 ·cases e
def tLC(wi:TI)(own:Nat)(g:TG)(tt:TT)(te:TE):TE:=fun σ H Q=>wi σ H fun J H1=>∀D,H1 D=none->∃W:Nat->Nat->St->Hp->Prop,
 (∃m,W 0 m (σ++Dp own none) (upd H1 D (.lst [])))/\∀i m σ' H',W i m σ' H' ->
  (J.stop i H'∧Q (.ref D) H')∨(J.go i H'∧∀ x H2,J.yld i H' x H2→g x σ' H2 fun σ2 H3=>tt σ2 H3 fun b H4=>if b=true
   then te σ2 H4 fun y H5=>∃Qa,H5 D=some (.lst Qa)/\Qa.length<sizeLine/\∃m',m'<m/\W (i+1) m' σ2 (upd H5 D (.lst (Qa++[y])))
   else ∃m',m'<m/\W (i+1) m' σ2 H4)
theorem aM.aside{H0 H:Hp}{σ:St}(st:aM H0 H σ ρ)(n0:H0 a=none)(no:¬aE σ ρ a):aM H0 (upd H a o) σ ρ where
 same:=fun b u z=>by rw[aH (aT z n0)];exact st.same _ _ z
 len:=st.len
 sh:=st.sh
 ow:=fun j d h=>by obtain⟨b,q,n,w⟩:=st.ow j d h;have nb:b≠a:=fun y=>no ⟨j,d,h,y▸q⟩;exact⟨b,q,n,w.mono (aJ.refl _) (aH nb)⟩
 dis:=st.dis
theorem aM.cL{H0 H:Hp}{σ:St}(st:aM H0 H σ ρ)(h:H a=none):¬aE σ ρ a:=fun⟨i,d,h1,h2⟩=>by obtain⟨b,q,n,w⟩:=st.ow i d h1;rw[h2]at q;cases q;obtain⟨o,z⟩:=w.some;rw[h]at z;cases z
theorem rm{α:Type}{l:List α}{r:List α}{x:α}(h:(l++r)[i]?=some x)(n:x∉r):i<l.length/\l[i]?=some x:=by
 by_cases hi:i<l.length
 ·rw[Vi hi]at h;exact⟨hi,h⟩
 ·rw[Vs (Xs.mp hi)]at h;exact absurd (WG h) n
theorem Hw:Dm.Cell.sh d∉Dp k Dm.Cell.un:=fun h=>by have:=List.eq_of_mem_replicate h;cases this
theorem rq:Dm.Cell.ow d∉Dp k Dm.Cell.un:=fun h=>by have:=List.eq_of_mem_replicate h;cases this
theorem aM.ext{H0 H:Hp}{σ:St}(st:aM H0 H σ ρ)(k:Nat):aM H0 H (σ++Dp k none) (ρ++Dp k .un) where
 same:=st.same
 len:=by simp[st.len]
 sh:=fun i d h=>by obtain⟨hi,h⟩:=rm h Hw;obtain⟨v,q,r⟩:=st.sh i d h;exact⟨v,by rw[Vi (by rw[st.len];exact hi)];exact q,r⟩
 ow:=fun i d h=>by obtain⟨hi,h⟩:=rm h rq;obtain⟨v,q,r⟩:=st.ow i d h;exact⟨v,by rw[Vi (by rw[st.len];exact hi)];exact q,r⟩
 dis:=fun i j d e a h1 h2 h3 h4=>by obtain⟨hi,h1⟩:=rm h1 rq;obtain⟨hj,h2⟩:=rm h2 rq;rw[Vi (by rw[st.len];exact hi)]at h3;rw[Vi (by rw[st.len];exact hj)]at h4;exact st.dis i j d e a h1 h2 h3 h4
theorem tH{H0 H:Hp}{σ:St}(st:aM H0 H σ ρ)(h:aE (σ++Dp k none) (ρ++Dp k .un) a):aE σ ρ a:=by obtain⟨i,d,h1,h2⟩:=h;obtain⟨hi,h1⟩:=rm h1 rq;rw[Vi (by rw[st.len];exact hi)]at h2;exact⟨i,d,h1,h2⟩
theorem Stp.aside{O:Addr->Prop}{H0 H H0' H':Hp}{D:Addr}(t:Stp O H0 H H0' H')(hD:H D=none):Stp O H0 H H0' (upd H' D o):=
 ⟨t.s0,fun a u e n=>by rw[aH (aT e hD)];exact t.s1 a u e n,t.s2,fun a u e=>by rw[aH (aT e hD)];exact t.s3 a u e⟩
theorem ESt.je{σ:St}{ρ ρ':Dm.Env}{H0 H H0' H':Hp}(t:ESt σ ρ H0 H ρ' H0' H'){D:Addr}(h:H D=some o)(n0:H0 D=none)(no:¬aE σ ρ D):H' D=some o/\H0' D=none/\¬aE σ ρ' D:=by
 refine⟨t.stp.s1 D o h no,?_,fun z=>no (t.own D z)⟩;cases q:H0' D with
 |none=>rfl
 |some u=>
  rcases t.stp.s2 D u q with z | z | z
  ·rw[h]at z;cases z
  ·rw[n0]at z;cases z
  ·exact absurd z no
def JWa(J:It)(H00:Hp)(pa:Option (Addr×HO))(ys:List Dat):Prop:=∀H0 H,aJ H00 H0->aJ H0 H->(∀q,pa=some q->H q.1=some q.2)->(∀i,ys.length<=i->J.stop i H) /\
 ∀(i:Nat) (d:Dat),ys[i]?=some d->J.go i H/\∀x H',J.yld i H x H'->∃H0',aW H0 H H0' H'/\Rep H0' x d
theorem Bg{σ:St}{own:Nat}{t:FT}{el:FE}{Q:VK}{H00 Hb:Hp}{ρ1 ρ2:Dm.Env}{ds ys:List Dat}{J:It}{pa:Option (Addr×HO)}(hb:BD is g bd)(hl:∀i∈is,σ.length<=i)
  (st1:aM H00 Hb σ ρ1) (hp:∀q,pa=some q->Hb q.1=some q.2/\H00 q.1=none/\¬aE σ ρ1 q.1) (jw:JWa J H00 pa ds) (hsz:ds.length<=Dm.SZ) (e2:Dm.lM bd t el ds (ρ1++Dp own .un) []=some (ys,ρ2))
  (k:∀v H0' H',ESt σ ρ1 H00 Hb (ρ2.take ρ1.length) H0' H'->l5 Hb H0' H' σ (ρ2.take ρ1.length) v (.new (.lst ys))->(∀q,pa=some q->H' q.1=some q.2/\H0' q.1=none)->Q v H') (D:Addr) (hD:Hb D=none) :
  ∃W:Nat->Nat->St->Hp->Prop,(∃m,W 0 m (σ++Dp own none) (upd Hb D (.lst [])))/\∀i m σ' H',W i m σ' H' ->
  (J.stop i H'∧Q (.ref D) H')∨(J.go i H'∧∀ x H2,J.yld i H' x H2→g x σ' H2 fun σ2 H3=>tDT t σ2 H3 fun b H4=>if b=true
   then tD el σ2 H4 fun y H5=>∃Qa,H5 D=some (.lst Qa)/\Qa.length<sizeLine/\∃m',m'<m/\W (i+1) m' σ2 (upd H5 D (.lst (Qa++[y])))
   else ∃m',m'<m/\W (i+1) m' σ2 H4):=by
 have hpD:∀q,pa=some q->q.1≠D:=fun q e z=>by have:=(hp q e).1;rw[z,hD]at this;cases this
 have noD:¬aE σ ρ1 D:=st1.cL hD;refine ⟨fun i m σ' H'=>∃ (H0c:Hp) (ρc:Dm.Env) (FO:List Dat) (C3:List V),aM H0c H' σ' ρc∧aJ H00 H0c∧m=ds.length-i∧i≤ds.length∧Dm.lM bd t el (ds.drop i) ρc FO=some (ys,ρ2) ∧
  H' D=some (.lst C3)/\aN H0c C3 FO/\H0c D=none/\FO.length<=i/\Stp (aE σ ρ1) H00 Hb H0c H'/\(∀j,j<σ.length->σ'[j]?=σ[j]?)/\(∀a,aE σ' ρc a->aE σ ρ1 a)/\(∀j,Def ρ1 j->Def ρc j)/\(∀q,pa=some q->H' q.1=some q.2/\H0c q.1=none/\¬aE σ' ρc q.1),
  ⟨ds.length,H00,ρ1++Dp own .un,[],[],(st1.aside (st1.same.free hD) noD).ext own,aJ.refl _,by simp,VN _,by simpa using e2,aL,.nil,st1.same.free hD,VN _,(Stp.refl _ _ _).aside hD,
   fun j hj=>Vi hj,fun a z=>tH st1 z,fun j z=>trivial,fun q e=>⟨by rw[aH (hpD q e)];exact(hp q e).1,(hp q e).2.1,fun z=>(hp q e).2.2 (tH st1 z)⟩⟩,?_⟩
 rintro i m σ' H' ⟨H0c,ρc,FO,C3,sc,s00,rfl,hi,ec,hDl,ra,n0,hal,sp,hσ,ho,hdf,hpc⟩;have nOc:¬aE σ' ρc D:=fun z=>noD (ho D z);obtain⟨js,jg⟩:=jw H0c H' s00 sc.same fun q e=>(hpc q e).1;by_cases Qc:i<ds.length
 ·have hd:ds[i]?=some ds[i]:=by simp[Qc]
  obtain⟨g1,g2⟩:=jg i ds[i] hd;rw[Wh Qc]at ec;unfold Dm.lM at ec;refine .inr ⟨g1,fun y H2 yy=>?_⟩;obtain⟨H0',gr,rx⟩:=g2 y H2 yy;split at ec
  ·cases ec
  rename_i ρ3 e3;have t2:=ESt.grow sc gr;obtain⟨hD2,n02,no2⟩:=t2.je hDl n0 nOc;have hp2:=fun q e=>t2.je (hpc q e).1 (hpc q e).2.1 (hpc q e).2.2;refine hb H0' H2 σ' ρc ρ3 y ds[i] _ t2.st rx e3 fun σ3 st3 o3 k3 d3 _=>?_;have no3:¬aE σ3 ρ3 D:=fun z=>no2 (o3 D z);have po3:∀q,pa=some q->¬aE σ3 ρ3 q.1:=fun q e z=>(hp2 q e).2.2 (o3 q.1 z);have hσ3:∀j,j<σ.length->σ3[j]?=σ[j]?:=fun j hj=>(k3 j fun z=>Xs.mpr (hl j z) hj).trans (hσ j hj);have ho3:∀a,aE σ3 ρ3 a->aE σ ρ1 a:=fun a z=>ho a (o3 a z);have RC:∀j,Def ρ1 j->Def ρ3 j:=fun j z=>d3 j (hdf j z);have sp3:Stp (aE σ ρ1) H00 Hb H0' H2:=sp.trans t2.stp fun a z=>.inl (ho a z);have ra3:=ra.mono gr.s0;have s3:aJ H00 H0':=s00.trans gr.s0;split at ec
  ·cases ec
  ·rename_i ρ4 e4;refine⟨H0',ρ3,false,ρ4,st3,e4,fun C4 H'' t4=>?_⟩;dsimp only;rw[if_neg VL];obtain⟨hD4,n04,no4⟩:=t4.je hD2 n02 no3;have hp4:=fun q e=>t4.je (hp2 q e).1 (hp2 q e).2.1 (po3 q e);exact⟨ds.length-(i+1),by lia,C4,ρ4,FO,C3,t4.st,s3.trans t4.stp.s0,rfl,Qc,ec,hD4,ra3.mono t4.stp.s0,n04,Yq hal,sp3.trans t4.stp fun a z=>.inl (ho3 a z),hσ3,fun a z=>ho3 a (t4.own a z),fun j z=>t4.dfn j (RC j z),hp4⟩
  ·rename_i ρ4 e4;refine⟨H0',ρ3,true,ρ4,st3,e4,fun C4 H'' t4=>?_⟩;dsimp only;rw[if_pos rfl];obtain⟨hD4,n04,no4⟩:=t4.je hD2 n02 no3;have hp4:=fun q e=>t4.je (hp2 q e).1 (hp2 q e).2.1 (po3 q e);split at ec
   ·cases ec
   rename_i x5 ρ5 e5;split at ec
   ·cases ec
   rename_i y6 ρ6 e6;refine⟨C4,ρ4,x5,ρ5,t4.st,e5,fun v H5 Hc t5 r5=>?_⟩;obtain⟨H6,t6,b6,r6,_,_⟩:=take1 t5 (aJ.refl _) r5 e6;obtain⟨hD6,n06,no6⟩:=t6.je hD4 n04 no4;have hp6:=fun q e=>t6.je (hp4 q e).1 (hp4 q e).2.1 (hp4 q e).2.2;refine⟨C3,hD6,?_,ds.length-(i+1),by lia,H6,ρ6,FO++[y6],C3++[v],t6.st.aside n06 no6,(s3.trans t4.stp.s0).trans t6.stp.s0,rfl,Qc,ec,aL,?_,n06,?_,?_,hσ3,fun a z=>ho3 a (t4.own a (t6.own a z)),fun j z=>t6.dfn j (t4.dfn j (RC j z)),fun q e=>⟨by rw[aH (hpD q e)];exact(hp6 q e).1,(hp6 q e).2.1,(hp6 q e).2.2⟩⟩
   ·rw[ra.length];unfold Dm.SZ at hsz;exact Nat.lt_of_le_of_lt (Nat.le_trans hal (Nat.le_trans (Yx Qc) hsz)) (by decide)
   ·exact((ra3.mono t4.stp.s0).mono t6.stp.s0).append (.cons r6 .nil)
   ·rw[Vn,W4];lia
   ·exact((sp3.trans t4.stp fun a z=>.inl (ho3 a z)).trans t6.stp fun a z=>.inl (ho3 a (t4.own a z))).aside hD
 ·have e':i=ds.length:=by lia
  subst e';rw[XU]at ec;cases ec;refine .inl ⟨js _ (Nat.le_refl _),k _ H0c H' ?_ ?_ fun q e=>⟨(hpc q e).1,(hpc q e).2.1⟩⟩
  ·have IY:σ.length<=ρ2.length:=by
    rw[<- sc.len];refine Xs.mp fun z=>?_;have q:=hσ σ'.length z;rw[VJ (Nat.le_refl _),V2 z]at q;cases q
   have tk:∀{j:Nat} {c:Dm.Cell},(ρ2.take ρ1.length)[j]?=some c->j<σ.length/\ρ2[j]?=some c:=fun {j c} h=>by
    have hj:j<ρ1.length:=by
     have:=(Vm.mp h).1;rw[V8]at this
     lia
    rw[WV hj]at h;exact⟨by rw[st1.len];exact hj,h⟩
   have own':∀a,aE σ (ρ2.take ρ1.length) a->aE σ' ρ2 a:=fun a ⟨j,d,h1,h2⟩=>by obtain⟨hj,h1⟩:=tk h1;exact⟨j,d,h1,(hσ j hj).trans h2⟩
   refine⟨⟨sc.same,?_,fun j d h=>?_,fun j d h=>?_,fun j j' d d' a h1 h2 h3 h4=>?_⟩,sp,fun a z=>ho a (own' a z),fun j z=>?_⟩
   ·rw[V8,<- st1.len];lia
   ·obtain⟨hj,h⟩:=tk h;obtain⟨v,q,r⟩:=sc.sh j d h;exact⟨v,(hσ j hj).symm.trans q,r⟩
   ·obtain⟨hj,h⟩:=tk h;obtain⟨v,q,r⟩:=sc.ow j d h;exact⟨v,(hσ j hj).symm.trans q,r⟩
   ·obtain⟨hj,h1⟩:=tk h1;obtain⟨hj',h2⟩:=tk h2;exact sc.dis j j' d d' a h1 h2 ((hσ j hj).trans h3) ((hσ j' hj').trans h4)
   ·trivial
  ·refine⟨D,rfl,hD,fun⟨j,d,h1,h2⟩=>?_,n0,C3,hDl,ra⟩;have hj:j<ρ1.length:=by
    have:=(Vm.mp h1).1;rw[V8]at this
    lia
   rw[WV hj]at h1;exact nOc ⟨j,d,h1,(hσ j (by rw[st1.len];exact hj)).trans h2⟩
theorem Aa{own:Nat}{el:FE}(hb:BD is g bd)(hl:∀i∈is,σ.length<=i)(h:tD (Dm.gy fi own bd t el) σ H Q) :
  tLC (tDI fi) own g (tDT t) (tD el) σ H Q:=by
 obtain⟨H0,ρ,x,ρ',st,e,k⟩:=h;unfold Dm.gy at e;split at e
 ·cases e
 rename_i ds ρ1 e1;split at e
 case isFalse=>cases e
 rename_i hsz;split at e
 ·cases e
 rename_i ys ρ2 e2;cases e;refine⟨H0,ρ,ds,ρ1,st,e1,fun J H00 Hb t1 jw D hD=>Bg (pa:=none) hb hl t1.st (fun q e=>by cases e) (fun H0 H s0 s1 _=>jw H0 H s0 s1) hsz e2 (fun v H0' H' t2 r2 _=>k v H0' H' (t1.trans t2) (r2.early fun a n=>t1.stp.gone n)) D hD⟩
theorem Hx{n m:Nat}{H:Hp}(h:spD (Dm.fn n m body) vs H Q E):vs.length=n:=by
 obtain⟨H0,ds,z,s,rs,e,k⟩:=h;unfold Dm.fn at e;split at e
 ·rename_i hl;rw[rs.length];exact hl
 ·cases e
theorem Ug{N:List Str}{n m:Nat}(hm:N.length=n+m)(h:spD (Dm.fn n m body) vs H Q E) :
  tDS body { nx:=fun _ H'=>Q .non H',rt:=Q } (start N vs) H:=by
 have hvn:=Hx h;obtain⟨H0,ds,z,s,rs,e,k⟩:=h;have hl:=rs.length;have no:∀a,¬aE (start N vs) (ds.map Dm.Cell.sh++Dp m .un) a:=fun a ⟨i,d,h1,_⟩=>by
  by_cases hi:i<ds.length
  ·rw[Vi (by simpa using hi),VH]at h1;cases q:ds[i]? with
   |none=>rw[q]at h1;cases h1
   |some y=>rw[q]at h1;cases h1
  ·rw[Vs (by simpa using hi),VR]at h1;split at h1<;>cases h1
 have st:aM H0 H (start N vs) (ds.map Dm.Cell.sh++Dp m .un):=by
  refine⟨s,?_,fun i d h=>?_,fun i d h=>?_,fun i j d e a h1 h2 _ _=>?_⟩
  ·unfold L2.start;simp only[Vn,Pa,W3]
   lia
  ·have hi:i<ds.length:=by
    by_cases hi:i<ds.length
    ·exact hi
    ·rw[Vs (by simpa using hi),VR]at h;split at h<;>cases h
   rw[Vi (by simpa using hi),VH]at h;cases q:ds[i]? with
   |none=>rw[q]at h;cases h
   |some y=>rw[q]at h;cases h;obtain⟨v,hv,r⟩:=rs.get q;refine⟨v,?_,r⟩;unfold L2.start;rw[Vi (by simpa [hl] using hi),VH,hv];rfl
  ·by_cases hi:i<ds.length
   ·rw[Vi (by simpa using hi),VH]at h;cases q:ds[i]? with
    |none=>rw[q]at h;cases h
    |some y=>rw[q]at h;cases h
   ·rw[Vs (by simpa using hi),VR]at h;split at h<;>cases h
  ·by_cases hi:i<ds.length
   ·rw[Vi (by simpa using hi),VH]at h1;cases q:ds[i]? with
    |none=>rw[q]at h1;cases h1
    |some y=>rw[q]at h1;cases h1
   ·rw[Vs (by simpa using hi),VR]at h1;split at h1<;>cases h1
 have gr:∀{H0' H'},Stp (aE (start N vs) (ds.map Dm.Cell.sh++Dp m .un)) H0 H H0' H'->aJ H0' H'->aW H0 H H0' H':=fun {H0' H'} t ss=>⟨t.s0,fun a o e=>t.s1 a o e (no a),fun a o e=>(t.s2 a o e).imp id fun q=>q.elim id fun z=>absurd z (no a),ss⟩
 unfold Dm.fn at e;rw[if_pos (by rw[<- hl];exact hvn)]at e;split at e
 ·rename_i r ρ' e1;cases e;refine⟨H0,_,_,st,e1,fun σ' v H0' H' t r _=>k v H0' H' (gr t.stp t.st.same) ?_⟩;cases z with
  |val d=>exact r
  |new d=>obtain⟨a,e,n,n0,w⟩:=r;exact⟨a,e,n.elim id fun z=>absurd z (no a),n0,w⟩
 ·rename_i ρ' e1;cases e;exact⟨H0,_,_,st,e1,fun σ' H0' H' t=>k _ H0' H' (gr t.stp t.st.same) .non⟩
 ·cases e
end
end
open PySem PySem.Spec PyProof.Rows L2
noncomputable def bI(X:Cx)(nm:List Str)(scope:Scope)(own:List Str)(cl:List (Str×Addr))(C:Addr)(s:Shared)(H:Hp)(fp:List Addr):Cx where
 prog:=X.prog
 w:=X.w
 K:=X.K
 mg:=X.mg
 base:=X.base
 A:=X.A
 N:=nm++own
 s₀:=s
 H₀:=H
 env:=compEnvC scope cl C X.env
 outer:=X.stack
 stack:=X.stack
 ex:=fp
 fn:=fun _=>false
 calm:=X.calm
 pn:=[]
 xe:=fun _ _=>False
def PTs(X:Cx)(Sl:List Expr)(t:TT):Prop:=
 ∀(Dz:List (Addr×Obj)) (s:Shared) (σ:L2.St) (H:Hp) (Q:Bool->Hp->Prop),Inv X Dz σ H s->t σ H Q ->
  wpAny (model X.prog X.w) X.A (forIn Sl true fun c r=>if r=true then do let ok <- isTrue c X.env (eval c X.env);pure (Wx ok) else pure (Wx r)) (TP X Dz σ Q) X.xe s
def Hy:TT:=fun _ H Q=>Q true H
theorem Ab{X:Cx}:PTs X [] Hy:=fun Dz s σ H Q I h=>wpAny_tests_nil ⟨H,I,h⟩
theorem KG{X:Cx}{c:Expr}{t:TT}(h:PT X c t):PTs X [c] t:=fun Dz s σ H Q I hq=>wpAny_tests_one (h Dz s σ H Q I hq)
theorem jL(env:Env):∀(names:List (Str×NameKind)) (cs:List (Str×Addr)),(∀y∈names,y.2=.free->∃c,env.cells.lookup y.1=some c) ->
  ∃cl,(forIn names cs fun(x:Str×NameKind) (r:List (Str×Addr))=>(if (x.2 == NameKind.free)=true then do let c <- cellOf env x.1;pure (Wx ((x.1,c)::r)) else pure (Wx r):Sem (ForInStep (List (Str×Addr)))))=pure cl /\
   (∀x c,cl.lookup x=some c->env.cells.lookup x=some c\/cs.lookup x=some c)/\(∀y∈names,y.2=.free->∃c,cl.lookup y.1=some c)/\(∀x c,cs.lookup x=some c->∃c',cl.lookup x=some c')
 |[],cs,_=>⟨cs,rfl,fun _ _ h=>.inr h,fun _ h=>(nomatch h),fun _ c h=>⟨c,h⟩⟩
 |(n,k)::r,cs,h=>by
  have hr:∀y∈r,y.2=.free->∃c,env.cells.lookup y.1=some c:=fun y hy=>h y (Ds _ hy);by_cases hk:k=.free
  ·subst hk;obtain⟨c,hc⟩:=h (n,.free) PU rfl;obtain⟨cl,e,h1,h2,h3⟩:=jL env r ((n,c)::cs) hr;refine⟨cl,?_,fun x c' q=>?_,fun y hy hf=>?_,fun x c' q=>?_⟩
   ·rw[List.forIn_cons];have e1:cellOf env n=pure c:=by unfold cellOf;rw[hc]
    simp only[beq_self_eq_true,if_true,e1,pure_bind];exact e
   ·rcases h1 x c' q with z | z
    ·exact .inl z
    ·rw[V5]at z;cases hx:x == n with
     |true=>
      rw[hx]at z;have:x=n:=by simpa using hx
      subst this;injection z with z
      subst z;exact .inl hc
     |false=>rw[hx]at z;exact .inr z
   ·rcases Vq.mp hy with rfl | hy
    ·exact h3 n c (by rw[V5,beq_self_eq_true])
    ·exact h2 y hy hf
   ·by_cases hx:x=n
    ·subst hx;exact h3 x c (by rw[V5,beq_self_eq_true])
    ·have hx':(x == n)=false:=by simpa using hx
     exact h3 x c' (by rw[V5,hx'];exact q)
  ·have hb:(k == NameKind.free)=false:=by simpa using hk
   obtain⟨cl,e,h1,h2,h3⟩:=jL env r cs hr;refine⟨cl,?_,h1,fun y hy hf=>?_,h3⟩
   ·rw[List.forIn_cons];simp only[hb,V3,if_false,pure_bind];exact e
   ·rcases Vq.mp hy with rfl | hy
    ·exact absurd hf hk
    ·exact h2 y hy hf
theorem xg{env:Env}{scope:Scope}(h:∀y∈scope.names,y.2=.free->∃c,env.cells.lookup y.1=some c) :
  ∃cl,closureFor scope env=pure cl/\(∀x c,cl.lookup x=some c->env.cells.lookup x=some c)/\∀y∈scope.names,y.2=.free->∃c,cl.lookup y.1=some c:=by
 obtain⟨cl,e,h1,h2,_⟩:=jL env scope.names [] h;refine⟨cl,?_,fun x c q=>(h1 x c q).elim id fun z=>by simp at z,h2⟩;unfold closureFor;have e':(forIn scope.names ([]:List (Str×Addr)) fun(x:Str×NameKind) (r:List (Str×Addr))=>(if (x.2 == NameKind.free)=true then do let c <- cellOf env x.1;pure (Wx ((x.1,c)::r)) else pure (Wx r):Sem (ForInStep (List (Str×Addr)))))=pure cl:=e
 first
  |(rw[show (forIn scope.names ([]:List (Str×Addr)) _:Sem (List (Str×Addr)))=pure cl from e'];rfl)
  |(simp only[e'];rfl)
theorem Ac{prog:Program}{w:World}{A:Around}{R:Result->Shared->Prop}{s:Shared}{SN target iter:Expr}{Sl:List Expr}{scope:Scope}{pos:Pos}{it Qa:Value}{env:Env}(I:Nat->Shared->Prop)
  (turn:∀ n s,I n s→wpAny (model prog w) A (pyNext it) (fun r s₁=>match r with
   |none=>R (.ok .next) s₁
   | some v=>wpAny (model prog w) A (letOwnedTupleGo target it v) (fun _ s₁'=>wpAny (model prog w) A (assign target env v) (fun _ s₂=>
     wpAny (model prog w) A (forIn Sl true fun c r=>if r=true then do let ok ← isTrue c env (eval c env);pure (Wx ok) else pure (Wx r)) (fun ok s₃=>
      if ok=true then wpAny (model prog w) A (eval SN env) (fun x s₄=>wpAny (model prog w) A (call (.builtin "list.append") [Qa,x]) (fun _ s₅=>∃m,m<n/\I m s₅) (fun _ _=>False) s₄) (fun _ _=>False) s₃
      else ∃m,m<n/\I m s₃) (fun _ _=>False) s₂) (fun _ _=>False) s₁') (fun _ _=>False) s₁) (fun _ _=>False) s)
  (n:Nat) (h:I n s) :
  codeAny (model prog w) A (.compLoop (.ListComp SN [⟨target,iter,Sl,0⟩] scope pos) 0 it Qa env) R s:=by
 have no:∀{P:Value->Shared->Prop} (x:Value) (s':Shared),False->P x s':=fun _ _ f=>f.elim;refine codeAny_loop rfl I (fun n s hI=>?_) n h;show wpAny _ A ((compTurn (.ListComp SN [⟨target,iter,Sl,0⟩] scope pos) 0 it Qa env).onRaise (fun x=>do noteFrame x env;theTreesLotGoes x)) _ _ s;refine wpAny_noted ?_;rw[compTurn_list];refine wpAny_bind (wpAny_standAt (wpAny_bind (wpAny_mono (turn n s hI) (fun r s₁ h₁=>?_) no)));cases r with
 |none=>exact wpAny_pure h₁
 |some v=>
  refine wpAny_bind (wpAny_mono h₁ (fun _ s₁' h₁'=>?_) no);refine wpAny_bind (wpAny_mono h₁' (fun _ s₂ h₂=>wpAny_bind (wpAny_mono h₂ (fun ok s₃ h₃=>?_) no)) no);cases ok with
  |false=>exact wpAny_pure ⟨rfl,h₃⟩
  |true=>exact wpAny_bind (wpAny_bind (wpAny_mono h₃ (fun x s₄ h₄=>wpAny_bind (wpAny_mono h₄ (fun _ s₅ h₅=>wpAny_pure (wpAny_pure ⟨rfl,h₅⟩)) no)) no))
theorem iX(env:Env):∀(names:List (Str×NameKind)) (x:Str) (k:NameKind),
  (names.map fun(n,k)=>if (k == NameKind.free&&env.scope.kind == .function&&env.kindOf n == some .cell) then (n,YL) else (n,k)).lookup x=some k ->
  ∃k0,names.lookup x=some k0/\(k=k0\/(k0=.free/\k=.cell))
 |[],x,k,h=>by simp at h
 |(n,k1)::r,x,k,h=>by
  have h:List.lookup x ((if (k1 == NameKind.free&&env.scope.kind == .function&&env.kindOf n == some .cell)=true then (n,YL) else (n,k1))::r.map fun(n,k)=>if (k == NameKind.free&&env.scope.kind == .function&&env.kindOf n == some .cell) then (n,YL) else (n,k))=some k:=h;cases hx:x == n with
  |true=>
   by_cases hc:(k1 == NameKind.free&&env.scope.kind == .function&&env.kindOf n == some .cell)=true
   ·rw[if_pos hc,V5,hx]at h;injection h with h
    have hk:k1=.free:=by simp only[Vv,beq_iff_eq]at hc;exact hc.1.1
    exact⟨k1,by rw[V5,hx],.inr ⟨hk,h.symm⟩⟩
   ·rw[if_neg hc,V5,hx]at h;injection h with h
    exact⟨k1,by rw[V5,hx],.inl h.symm⟩
  |false=>
   by_cases hc:(k1 == NameKind.free&&env.scope.kind == .function&&env.kindOf n == some .cell)=true
   ·rw[if_pos hc,V5,hx]at h;obtain⟨k0,e,z⟩:=iX env r x k h;exact⟨k0,by rw[V5,hx];exact e,z⟩
   ·rw[if_neg hc,V5,hx]at h;obtain⟨k0,e,z⟩:=iX env r x k h;exact⟨k0,by rw[V5,hx];exact e,z⟩
structure gB(X:Cx)(nm:List Str)(scope:Scope):Prop where
 kind:scope.kind=.function
 cell:∀y∈scope.names,y.2≠.cell
 names:∀y∈scope.names,y.2=.local->scope.names.lookup y.1=some .local
 free:∀y∈scope.names,y.2=.free->X.env.kindOf y.1=some .cell\/X.env.kindOf y.1=some .free
 apart:∀x∈nm,scope.names.lookup x≠some .local
 len:nm.length=X.N.length
 mask:∀(i:Nat) (x:Str),nm[i]?=some x->X.N[i]?=some x\/scope.names.lookup x=none
section
variable{X:Cx}{nm:List Str}{SN tg iter:Expr}{Sl:List Expr}{scope:Scope}{pos:Pos}{own:List Str}{wi:TI}{g:TG}{tt:TT}{te:TE}
theorem zf{Dz:List (Addr×Obj)}{s2:Shared}{σ:L2.St}{H2:Hp}{cl:List (Str×Addr)}{it:Addr}{fp:List Addr}{tn:Nat->Heap->Prop}{J:It}{Q:VK}{E:Value->Shared->Prop}{RR:Value->Addr->Result->Shared->Prop}
  (hc:X.calm=true) (S:gB X nm scope) (xh:∀x c,cl.lookup x=some c->X.env.cells.lookup x=some c) (FP:∀y∈scope.names,y.2=.free->∃c,cl.lookup y.1=some c)
  (hg:∀cl C s H fp,PG (bI X nm scope own cl C s H fp) tg g) (ht:∀cl C s H fp,PTs (bI X nm scope own cl C s H fp) Sl tt) (he:∀cl C s H fp,PE (bI X nm scope own cl C s H fp) SN te)
  (I2:Inv X Dz σ H2 s2) (T:Turn X.prog X.w X.K tg J fp it tn) (st2:tn 0 s2.heap) (f2:∀b∈fp,zX X Dz H2 b)
  (hR:∀ D,H2 D=none→∃ W:Nat→Nat→L2.St→Hp→Prop,
   (∃m,W 0 m (σ++Dp own.length none) (upd H2 D (.lst [])))/\∀i m σ' H',W i m σ' H' ->
    (J.stop i H'∧Q (.ref D) H')∨(J.go i H'∧∀ x H2,J.yld i H' x H2→g x σ' H2 fun σ2 H3=>tt σ2 H3 fun b H4=>if b=true
     then te σ2 H4 fun y H5=>∃Qa,H5 D=some (.lst Qa)/\Qa.length<sizeLine/\∃m',m'<m/\W (i+1) m' σ2 (upd H5 D (.lst (Qa++[y])))
     else ∃m',m'<m/\W (i+1) m' σ2 H4))
  (Uh:∀D C H6 s6,Inv X Dz σ H6 s6->H6 C=none->C≠X.env.locals->X.s₀.heap.objs.size<=C->(∀x c,X.env.cells.lookup x=some c->c≠C)->(∀p∈X.pn++Dz,p.1≠C)->(∃m,s6.heap.Ns C m)->Q (.ref D) H6->RR (.ref D) C (.ok .next) s6) :
  wpAny (model X.prog X.w) X.A (newList []) (fun Qa s₃=>wpAny (model X.prog X.w) X.A (newFunctionEnv scope X.env.globals cl [] X.env.qual none .none (some X.env)) (fun cenv s₄=>codeAny (model X.prog X.w) X.A (.compStart (.ListComp SN [⟨tg,iter,Sl,0⟩] scope pos) 0 (.ref it) Qa { cenv with scope:=relabel scope X.env }) (RR Qa cenv.locals) s₄) E s₃) E s2:=by
 have no:∀{P:Value->Shared->Prop} (x:Value) (s':Shared),False->P x s':=fun _ _ f=>f.elim;refine wpAny_newObj_type (wpAny_newFunctionEnv S.cell (by intro y hy;simp at hy) (fun h₁ hns₁ hsb₁=>?_) S.kind);dsimp only at hns₁ hsb₁ ⊢;have I3:Inv X Dz σ (upd H2 s2.heap.objs.size (.lst [])) { s2 with heap:=s2.heap.push { cls:=.type "list",dict:=none,data:=.seq ([]:List Value).toArray } }:=I2.Oz (t':=s2.toks) (ys:=[]) (its:=[]) .nil (VN _)
 generalize hG2:s2.heap.push { cls:=.type "list",dict:=none,data:=.seq ([]:List Value).toArray }=G2 at hns₁ hsb₁ I3 ⊢
 have hC:G2.objs.size=s2.heap.objs.size+1:=by rw[<- hG2,Heap.size_push]
 have up2:∀b o,s2.heap.get? b=some o->G2.get? b=some o:=fun b o e=>hG2▸Vp _ e;have up3:∀b o,G2.get? b=some o->h₁.get? b=some o:=fun b o e=>hsb₁.extBut b o (VC (Vl e)) (Vp _ e);have Ui:G2.get? G2.objs.size=none:=Heap.get?_none_of_le (Nat.le_refl _);have fpo:∀b∈fp,∃o,s2.heap.get? b=some o:=fun b hb=>by obtain⟨o,e,_⟩:=T.obj 0 _ st2 b hb;exact⟨o,e⟩
 have fpC:∀b∈fp,b≠G2.objs.size:=fun b hb=>by obtain⟨o,e⟩:=fpo b hb;exact VC (Vl (up2 b o e))
 have H3C:(upd H2 s2.heap.objs.size (.lst [])) G2.objs.size=none:=I3.hok.fresh (Nat.le_refl _);have fpD:∀b∈fp,b≠s2.heap.objs.size:=fun b hb=>by obtain⟨o,e⟩:=fpo b hb;exact VC (Vl e)
 have RD:∀b∈fp,b∉frs X.stack:=fun b hb z=>by
  rcases Vq.mp (I3.wJ b z) with y | y
  ·exact(f2 b hb).2.1 y
  ·exact(f2 b hb).2.2.1 y
 have ok':(bI X nm scope own cl G2.objs.size { s2 with heap:=G2 } (upd H2 s2.heap.objs.size (.lst [])) fp).Ok:=by
  refine ⟨I3.ok.mod,S.kind,I3.ok.glob,I3.ok.blt,Nat.le_refl _,fun x y c e1 e2=>I3.ok.inj x y c (xh x c e1) (xh y c e2),fun x hx=>?_,fun x c z=>(nomatch z),I3.ok.hd,I3.ok.frames,.inl rfl,
   fun b hb=>⟨fpC b hb,fun x c e=>(f2 b hb).2.2.2.2.1 x c (xh x c e)⟩,fun b o e=>I3.bs b o e,Nat.le_trans I3.ok.bsz I3.sz,fun b o e hb=>?_,fun b hb=>RD b hb,I3.stack,I3.zV⟩
  ·have hx:(relabel scope X.env).names.lookup x=some .cell\/(relabel scope X.env).names.lookup x=some .free:=hx;have key:∀k,(relabel scope X.env).names.lookup x=some k->k≠.local->k=.cell\/k=.free->∃c,cl.lookup x=some c:=fun k hk _ hkk=>by
    obtain⟨k0,e0,z⟩:=iX X.env scope.names x k hk;have m0:=PySem.mem_of_lookup e0;have f0:k0=.free:=by
     rcases z with z | z
     ·subst z;rcases hkk with q | q
      ·exact absurd q (S.cell _ m0)
      ·exact q
     ·exact z.1
    exact FP (x,k0) m0 f0
   rcases hx with hx | hx
   ·exact key _ hx (by decide) (.inl rfl)
   ·exact key _ hx (by decide) (.inr rfl)
  ·rcases (f2 b hb).2.2.2.1 with z | z
   ·exact I3.ok.GD b o e z
   ·exact absurd (Vr (Vl e) (Nat.le_trans I3.ok.bsz z)) (W6 _)
 have stat:∀{H':Hp},(∀b∈fp,H' b=none)->∀b∈fp,zX (bI X nm scope own cl G2.objs.size { s2 with heap:=G2 } (upd H2 s2.heap.objs.size (.lst [])) fp) [] H' b:=fun hn b hb=>⟨hn b hb,fpC b hb,RD b hb,.inl hb,fun x c e=>(f2 b hb).2.2.2.2.1 x c (xh x c e),fun p hp=>(nomatch (show p∈([]:List (Addr×Obj)) from hp))⟩
 have I4:Inv (bI X nm scope own cl G2.objs.size { s2 with heap:=G2 } (upd H2 s2.heap.objs.size (.lst [])) fp) [] (σ++Dp own.length none) (upd H2 s2.heap.objs.size (.lst [])) { s2 with heap:=h₁,toks:=s2.toks+([]:List (Str×Value)).length }:=by
  refine⟨ok',rfl,I3.bare,Un.kept up3,⟨_,hns₁,fun i x v e1 e2 e3=>?_⟩,fun x c e=>?_,H3C,fun x c e=>I3.iY x c (xh x c e),fun p hp=>(nomatch (show p∈([]:List (Addr×Obj)) from hp)),I3.hok.kept up3,?_⟩
  ·have e1:(nm++own)[i]?=some x:=e1;have hi:i<σ.length:=by
    by_cases hi:i<σ.length
    ·exact hi
    ·rw[Vs (Xs.mp hi),VR]at e2;split at e2<;>cases e2
   rw[Vi hi]at e2;rw[Vi (by rw[S.len,<- I3.len];exact hi)]at e1;have key:∀k,(relabel scope X.env).names.lookup x=some k->k=.local\/k=.cell\/k=.free->scope.names.lookup x=some .free/\(k=.cell\/k=.free):=fun k hk hkk=>by
    obtain⟨k0,e0,z⟩:=iX X.env scope.names x k hk;have m0:=PySem.mem_of_lookup e0;have n1:k0≠.local:=fun y=>S.apart x (WG e1) (y▸e0);have n2:k0≠.cell:=S.cell _ m0;rcases z with z | z
    ·subst z;rcases hkk with q | q | q
     ·exact absurd q n1
     ·exact absurd q n2
     ·subst q;exact⟨e0,.inr rfl⟩
    ·obtain⟨z1,z2⟩:=z;subst z1;subst z2;exact⟨e0,.inl rfl⟩
   have hk:∃k,(relabel scope X.env).names.lookup x=some k/\(k=.cell\/k=.free)/\scope.names.lookup x=some .free:=by
    rcases (show (relabel scope X.env).names.lookup x=some .local\/(relabel scope X.env).names.lookup x=some .cell\/(relabel scope X.env).names.lookup x=some .free from e3) with q | q | q
    ·obtain⟨a,b⟩:=key _ q (.inl rfl);exact⟨_,q,b,a⟩
    ·obtain⟨a,b⟩:=key _ q (.inr (.inl rfl));exact⟨_,q,b,a⟩
    ·obtain⟨a,b⟩:=key _ q (.inr (.inr rfl));exact⟨_,q,b,a⟩
   obtain⟨k,hk1,hk2,hk3⟩:=hk;have m0:=PySem.mem_of_lookup hk3;obtain⟨c,hcc⟩:=FP (x,.free) m0 rfl;obtain⟨m,hn,hl⟩:=I3.loc;have hout:=S.free (x,.free) m0 rfl;have Uj:Vis X.env.scope x:=by
    rcases hout with q | q
    ·exact .inr (.inl q)
    ·exact .inr (.inr q)
   have e1':X.N[i]?=some x:=by
    rcases S.mask i x e1 with z | z
    ·exact z
    ·rw[z]at hk3;cases hk3
   obtain⟨u,ru,lk⟩:=hl i x v e1' e2 Uj;refine⟨u,ru,.inr ⟨?_,c,hcc,?_⟩⟩
   ·rcases hk2 with q | q
    ·subst q;exact .inl hk1
    ·subst q;exact .inr hk1
   ·rcases lk with⟨q,_⟩ | ⟨_,c',e',z⟩
    ·rcases hout with y | y
     ·rw[q]at y;cases y
     ·rw[q]at y;cases y
    ·rw[xh x c hcc]at e';cases e';obtain⟨o,ho,hd⟩:=z;exact⟨o,up3 c o ho,hd⟩
  ·obtain⟨v,o,ho,hd⟩:=I3.cell x c (xh x c e);exact⟨v,o,up3 c o ho,hd⟩
  ·show (σ++Dp own.length none).length=(nm++own).length;rw[Vn,Vn,W3,I3.len,S.len]
 obtain⟨W,⟨m0,w0⟩,turn⟩:=hR s2.heap.objs.size I2.fresh;have st4:tn 0 h₁:=T.keep 0 _ _ st2 fun b hb o e=>up3 b o (up2 b o e);have Uk:∀b∈fp,(upd H2 s2.heap.objs.size (.lst [])) b=none:=fun b hb=>by rw[aH (fpD b hb)];exact(f2 b hb).1
 have SR:∀s₃:Shared,s₃={ s2 with heap:=h₁,toks:=s2.toks+([]:List (Str×Value)).length } ->
   codeAny (model X.prog X.w) X.A (.compLoop (.ListComp SN [⟨tg,iter,Sl,0⟩] scope pos) 0 (.ref it) (.ref s2.heap.objs.size) (compEnvC scope cl G2.objs.size X.env))
    (RR (.ref s2.heap.objs.size) G2.objs.size) s₃:=by
  rintro s₃ rfl;refine Ac (fun n s'=>∃i σ' H',Inv (bI X nm scope own cl G2.objs.size { s2 with heap:=G2 } (upd H2 s2.heap.objs.size (.lst [])) fp) [] σ' H' s'/\tn i s'.heap/\(∀b∈fp,H' b=none)/\W i n σ' H') ?_ m0
   ⟨0,_,_,I4,st4,Uk,w0⟩
  rintro n s5 ⟨i,σ5,H5,I5,st5,fr5,w5⟩;rcases turn i n σ5 H5 w5 with⟨stop,q⟩ | ⟨go,step⟩
  ·refine wpAny_mono (T.done (bI X nm scope own cl G2.objs.size { s2 with heap:=G2 } (upd H2 s2.heap.objs.size (.lst [])) fp) rfl rfl rfl hc i [] s5 σ5 H5 (fun _ _=>False) I5 (stat fr5) st5 stop) (fun r s6 hr6=>?_) no;obtain⟨hr,I6⟩:=hr6;subst hr;have I7:Inv X Dz σ H5 s6:=I3.QW (ch:=fp) I6.os I6.base I6.hok I6.bare fun b hb=>⟨(f2 b hb).2.2.2.1,(f2 b hb).2.1,(f2 b hb).2.2.2.2.1,(f2 b hb).2.2.2.2.2⟩;refine Uh _ _ H5 s6 I7 I6.free (Yy (show X.env.locals<G2.objs.size from I3.lt)) I3.sz (fun x c e=>?_) (fun p hp=>?_) (let ⟨m,hn,_⟩:=I6.loc;⟨m,hn⟩) q
   ·obtain⟨v,z⟩:=I3.cell x c e;exact VC z.lt
   ·exact VC (Vl (I3.pin p hp).1)
  ·refine wpAny_mono (T.item (bI X nm scope own cl G2.objs.size { s2 with heap:=G2 } (upd H2 s2.heap.objs.size (.lst [])) fp) rfl rfl rfl hc i [] s5 σ5 H5 (fun _ _=>False) I5 (stat fr5) st5 go) (fun r s6 hr6=>?_) no;obtain⟨u,hr,h6⟩:=hr6;subst hr;refine wpAny_mono h6 (fun _ s7 h7=>?_) no;obtain⟨x,H7,I7,r7,y7,st7,fr7⟩:=h7;have I7':=I7.pinned (stat fr7) (T.obj _ _ st7);have again:∀{s9:Shared} {σ9:L2.St} {H9:Hp} {m':Nat},m'<n->Inv (bI X nm scope own cl G2.objs.size { s2 with heap:=G2 } (upd H2 s2.heap.objs.size (.lst [])) fp) ([]++wL fp s7.heap) σ9 H9 s9->W (i+1) m' σ9 H9 ->
     ∃m,m<n/\∃i σ' H',Inv (bI X nm scope own cl G2.objs.size { s2 with heap:=G2 } (upd H2 s2.heap.objs.size (.lst [])) fp) [] σ' H' s9/\tn i s9.heap/\(∀b∈fp,H' b=none)/\W i m σ' H':=fun {s9 σ9 H9 m'} hm I9 w9=>by
    refine⟨m',hm,i+1,σ9,H9,I9.qX,T.keep _ _ _ st7 fun b hb o e=>(I9.pin (b,o) (VB _ (VB _ (kH hb e)))).1,fun b hb=>?_,w9⟩;obtain⟨o,e,d⟩:=T.obj _ _ st7 b hb;exact(I9.pin (b,o) (VB _ (VB _ (kH hb e)))).2.1
   refine wpAny_mono (hg cl G2.objs.size _ _ fp _ s7 σ5 H7 x u _ I7' r7 (step x H7 y7)) (fun _ s8 h8=>?_) no;obtain⟨σ8,H8,I8,q8⟩:=h8;refine wpAny_mono (ht cl G2.objs.size _ _ fp _ s8 σ8 H8 _ I8 q8) (fun b s9 h9=>?_) no;obtain⟨H9,I9,q9⟩:=h9;cases b with
   |false=>rw[if_neg VL]at q9 ⊢;obtain⟨m',hm,w9⟩:=q9;exact again hm I9 w9
   |true=>rw[if_pos rfl]at q9 ⊢;refine wpAny_mono (he cl G2.objs.size _ _ fp _ s9 σ8 H9 _ I9 q9) (fun y s10 h10=>?_) no;obtain⟨yv,H10,I10,r10,Qa,hacc,IY,m',hm,w10⟩:=h10;refine wpAny_mono (sY (X:=bI X nm scope own cl G2.objs.size { s2 with heap:=G2 } (upd H2 s2.heap.objs.size (.lst [])) fp) _ s10 σ8 H10 (.ref s2.heap.objs.size) [yv] (.ref s2.heap.objs.size) [y] (fun _ H'=>H'=upd H10 s2.heap.objs.size (.lst (Qa++[yv]))) I10 rfl (.cons r10 .nil) ⟨_,Qa,yv,rfl,rfl,hacc,IY,rfl⟩) (fun _ s11 h11=>?_) no;obtain⟨_,H11,I11,_,e11⟩:=h11;subst e11;exact again hm I11 w10
 exact codeAny_compStart_list (SR _ rfl) (T.self _ 0 _ _ _ st4 (SR _ rfl))
theorem Ex(hc:X.calm=true)(S:gB X nm scope)(hi:PI X tg iter wi)
  (hg:∀cl C s H fp,PG (bI X nm scope own cl C s H fp) tg g) (ht:∀cl C s H fp,PTs (bI X nm scope own cl C s H fp) Sl tt) (he:∀cl C s H fp,PE (bI X nm scope own cl C s H fp) SN te)
  (hs:∀x,foldedSetIterable iter X.env x=pure x:=by intro _;rfl):PE X (.ListComp SN [⟨tg,iter,Sl,0⟩] scope pos) (tLC wi own.length g tt te):=by
 intro Dz s σ H Q I h;obtain⟨cl,hclos,xh,FP⟩:=xg (env:=X.env) (scope:=scope) fun y hy hf=>I.ok.has y.1 (S.free y hy hf);rw[eval_ListComp];refine wpAny_comprehension_free (use:=none) rfl hs hclos S.kind S.names (thn (hi Dz s σ H _ I h) fun v s1 h1=>thn h1 fun itv s2 h2=>?_);obtain⟨it,fp,tn,J,H2,e,I2,T,st2,f2,hR⟩:=h2;subst e;refine zf (Q:=Q) (RR:=fun Qa C=>compPost (model X.prog X.w) X.A X.xe none (EP X Dz σ Q) Qa C) hc S xh FP hg ht he I2 T st2 f2 hR ?_;intro D C H6 s6 I6 hCn hCL hCs hCc hCp hns q;obtain⟨m,hn⟩:=hns;refine⟨m,hn,fun h' hs'=>⟨.ref D,H6,I6.turned (t':=s6.toks) (fun b o hb e=>(hs'.2 b hb).trans e) hCn hCL (.inr hCs) hCc hCp,rfl,q⟩⟩
theorem i6{i:Nat}{y:Str}{py Qm:Pos}(hN:X.N.Nodup)(hi':X.N[i]?=some y)(hy:Loc X.env.scope y)(hc:X.calm=true)(S:gB X nm scope)(hi:PI X tg iter wi)
  (hg:∀cl C s H fp,PG (bI X nm scope own cl C s H fp) tg g) (ht:∀cl C s H fp,PTs (bI X nm scope own cl C s H fp) Sl tt) (he:∀cl C s H fp,PE (bI X nm scope own cl C s H fp) SN te)
  (hsw:swapsWith (.ListComp SN [⟨tg,iter,Sl,0⟩] scope pos) (some (.Name y py)) Qm.line X.env=pure true:=by rfl)
  (hs:∀x,foldedSetIterable iter X.env x=pure x:=by intro _;rfl) (hf:X.fn y=true\/X.env.scope.names.lookup y=some .local:=by trivial) :
  PS X (.Assign [.Name y py] (.ListComp SN [⟨tg,iter,Sl,0⟩] scope pos) Qm) (AY (tLC wi own.length g tt te) (lJ i)):=by
 intro Dz s σ H Dn I h;obtain⟨cl,hclos,xh,FP⟩:=xg (env:=X.env) (scope:=scope) fun y hy hf=>I.ok.has y.1 (S.free y hy hf);rw[exec_Assign_Name_used _ _ _ _ hsw];refine wpAny_bind (wpAny_standAt (wpAny_bind ?_));show wpAny _ X.A (do let _ <- comprehension (.ListComp SN [⟨tg,iter,Sl,0⟩] scope pos) scope X.env _ (newList []) false (eval iter X.env) (some (assign (.Name y py) X.env))) _ _ s;refine wpAny_bind (wpAny_mono (wpAny_comprehension_free (use:=some (assign (.Name y py) X.env)) (Q:=fun _ s'=>SP X Dz Dn .next s') rfl hs hclos S.kind S.names
  (thn (hi Dz s σ H _ I h) fun v s1 h1=>thn h1 fun itv s2 h2=>?_)) (fun _ s' hq=>wpAny_pure (wpAny_pure hq)) fun _ _ e=>e)
 obtain⟨it,fp,tn,J,H2,e,I2,T,st2,f2,hR⟩:=h2;subst e;refine zf (Q:=fun x H1=>lJ i x σ H1 Dn.nx) (RR:=fun Qa C=>compPost (model X.prog X.w) X.A X.xe (some (assign (.Name y py) X.env)) (fun _ s'=>SP X Dz Dn .next s') Qa C) hc S xh FP hg ht he I2 T st2 f2 hR ?_;intro D C H6 s6 I6 hCn hCL hCs hCc hCp hns q;obtain⟨m,hn⟩:=hns;show wpAny _ X.A (assign (.Name y py) X.env (.ref D)) _ _ _;refine wpAny_assign_Name (sS I6 hN hi' hy (v:=.ref D) rfl (fun s7 I7 h7=>?_) hf);obtain⟨a,sb,ha⟩:=h7;have hCa:C≠a:=by
  rcases ha with ha | ha
  ·rw[ha];exact hCL
  ·exact VS (hCc y a ha)
 refine⟨m,hn.sameBut sb hCa,fun h' hs'=>⟨_,H6,I7.turned (t':=s7.toks) (fun b o hb e=>(hs'.2 b hb).trans e) hCn hCL (.inr hCs) hCc hCp,q⟩⟩
end
mutual
noncomputable def toPy:Dat->PyData
 |.non=>.none
 |.bl b=>.bool b
 |.int i=>.int i
 |.str s=>.str ⟨s.toArray⟩
 |.tup xs=>.tuple (fB xs)
 |.lst xs=>.list (fB xs)
 |.dct _ _=>.dict []
 |.dcp _ _=>.dict []
 |.exc _=>.dict []
 |.cY _ _=>.dict []
 |.fn _=>.dict []
noncomputable def fB:List Dat->List PyData
 |[]=>[]
 |x::xs=>toPy x::fB xs
end
mutual
theorem rz:∀a b:Dat,Wu (toPy a) (toPy b)=Dm.eqD a b
 |.non,b=>by cases b<;>simp[toPy,Wu,Dm.eqD]
 |.bl x,b=>by cases b<;>simp[toPy,Wu,Dm.eqD,Dm.b2i]
 |.int x,b=>by cases b<;>simp[toPy,Wu,Dm.eqD,Dm.b2i]
 |.str x,b=>by
  cases b with
  |str y=>
   simp only[toPy,Wu,Dm.eqD];rw[YH];simp only[beq_iff_eq];constructor
   ·intro h;have h:=congrArg (fun s:Str=>s.cps.toList) h
    simpa using h
   ·rintro rfl;rfl
  |_=>simp[toPy,Wu,Dm.eqD]
 |.tup xs,b=>by
  cases b with
  |tup ys=>simp only[toPy,Wu,Dm.eqD];exact tK xs ys
  |_=>simp[toPy,Wu,Dm.eqD]
 |.lst xs,b=>by
  cases b with
  |lst ys=>simp only[toPy,Wu,Dm.eqD];exact tK xs ys
  |_=>simp[toPy,Wu,Dm.eqD]
 |.dct ks vs,b=>by cases b<;>simp[toPy,Wu,Dm.eqD]
 |.dcp ks vs,b=>by cases b<;>simp[toPy,Wu,Dm.eqD]
 |.exc C,b=>by cases b<;>simp[toPy,Wu,Dm.eqD]
 |.cY C v,b=>by cases b<;>simp[toPy,Wu,Dm.eqD]
 |.fn C,b=>by cases b<;>simp[toPy,Wu,Dm.eqD]
theorem tK:∀a b:List Dat,Yl (fB a) (fB b)=Dm.vj a b
 |[],b=>by cases b<;>simp[fB,Yl,Dm.vj]
 |x::xs,b=>by
  cases b with
  |nil=>simp[fB,Yl,Dm.vj]
  |cons y ys=>simp only[fB,Yl,Dm.vj];rw[rz x y,tK xs ys]
end
theorem Hz{s:List Nat}(h:(s.all fun c=>decide (c<128))=true):PyData.strOk ⟨s.toArray⟩=true:=by unfold PyData.strOk;rw[Array.all_eq_true'];intro c hc;have h1:=Wv.mp h c (by simpa using hc);have h2:c<128:=of_decide_eq_true h1;exact decide_eq_true (by lia)
theorem fC{P:Program}{w:World}{H:Hp}{h:Heap}(ok:HOk P w H h):∀(n:Nat),
  (∀(v:V) (d:Dat) (u:Value),Rep H v d->RelV v u->Dm.okD n d=true->∃as,Reads h u (toPy d) as/\(toPy d).canLay0=true/\(toPy d).depth<=n) /\
  (∀(vs:List V) (ds:List Dat) (us:List Value),aN H vs ds->Vals vs us->ds.all (Dm.okD n)=true->∃as,ReadsAll h us (fB ds) as/\Yr (fB ds)=true/\Wy (fB ds)<=n):=by
 intro n
 induction n with
 |zero=>
  have one:∀(v:V) (d:Dat) (u:Value),Rep H v d->RelV v u->Dm.okD 0 d=true->∃as,Reads h u (toPy d) as/\(toPy d).canLay0=true/\(toPy d).depth<=0:=by
   intro v d u r rv k;cases r with
   |non=>cases rv;exact⟨_,.none,rfl,Nat.le_refl _⟩
   |bl b=>cases rv;exact⟨_,.bool b,rfl,Nat.le_refl _⟩
   |int i=>obtain⟨t,rfl⟩:=rv;exact⟨_,.int i t,rfl,Nat.le_refl _⟩
   |str s=>obtain⟨t,rfl⟩:=rv;exact⟨_,.str _ t,Hz k,Nat.le_refl _⟩
   |tup _ _=>cases k
   |lst _ _=>cases k
   |dct _ _ _=>cases k
   |dcp _ _ _=>cases k
   |exc _=>cases k
   |cY _ _=>cases k
   |fn _=>cases k
  refine⟨one,fun vs ds=>?_⟩
  induction ds generalizing vs with
  |nil=>intro us r rv _;cases r;cases rv;exact⟨_,.nil,rfl,Nat.le_refl _⟩
  |cons d ds ih=>
   intro us r rv k;cases r with
   |cons r rs=>
    cases rv with
    |cons q qs=>rw[YM,Vv]at k;obtain⟨a1,h1,h2,h3⟩:=one _ _ _ r q k.1;obtain⟨a2,h4,h5,h6⟩:=ih _ _ rs qs k.2;exact⟨_,.cons h1 h4,by simp[fB,Yr,h2,h5],by simp only[fB,Wy];lia⟩
 |succ n ih=>
  have one:∀(v:V) (d:Dat) (u:Value),Rep H v d->RelV v u->Dm.okD (n+1) d=true->∃as,Reads h u (toPy d) as/\(toPy d).canLay0=true/\(toPy d).depth<=n+1:=by
   intro v d u r rv k;cases r with
   |non=>cases rv;exact⟨_,.none,rfl,VN _⟩
   |bl b=>cases rv;exact⟨_,.bool b,rfl,VN _⟩
   |int i=>obtain⟨t,rfl⟩:=rv;exact⟨_,.int i t,rfl,VN _⟩
   |str s=>obtain⟨t,rfl⟩:=rv;exact⟨_,.str _ t,Hz k,VN _⟩
   |tup q rs=>cases rv;obtain⟨z,its,vr,ob,e,hc,m,hd⟩:=ok _ _ q;obtain⟨as,h1,h2,h3⟩:=ih.2 _ _ _ rs vr k;exact⟨_,.tuple e hc hd h1,h2,by simp only[toPy,PyData.depth];lia⟩
   |lst q rs=>cases rv;obtain⟨z,its,m,vr,e⟩:=q.ok ok;obtain⟨as,h1,h2,h3⟩:=ih.2 _ _ _ rs vr k;exact⟨_,.list e rfl rfl h1,h2,by simp only[toPy,PyData.depth];lia⟩
   |dct _ _ _=>cases k
   |dcp _ _ _=>cases k
   |exc _=>cases k
   |cY _ _=>cases k
   |fn _=>cases k
  refine⟨one,fun vs ds=>?_⟩
  induction ds generalizing vs with
  |nil=>intro us r rv _;cases r;cases rv;exact⟨_,.nil,rfl,VN _⟩
  |cons d ds ih=>
   intro us r rv k;cases r with
   |cons r rs=>
    cases rv with
    |cons q qs=>rw[YM,Vv]at k;obtain⟨a1,h1,h2,h3⟩:=one _ _ _ r q k.1;obtain⟨a2,h4,h5,h6⟩:=ih _ _ rs qs k.2;exact⟨_,.cons h1 h4,by simp[fB,Yr,h2,h5],by simp only[fB,Wy];lia⟩
theorem o_.full{H0 H:Hp}(s:aJ H0 H){v:V}{d:Dat}(r:o_ H0 H v d):Rep H v d:=by
 rcases r with r | ⟨a,rfl,w⟩
 ·exact r.mono s
 ·cases d with
  |lst ds=>obtain⟨xs,q,rs⟩:=w;exact .lst (.inl q) (rs.mono s)
  |dct ks ds=>obtain⟨kvs,q,e,rs⟩:=w;exact .dct q e (rs.mono s)
  |dcp ks ds=>obtain⟨kvs,q,e,rs⟩:=w;exact .dcp q (e.mono s) (rs.mono s)
  |_=>exact Vx w
def KH(neg:Bool):R2:=fun x y H Q=>∃dx dy,Rep H x dx/\Rep H y dy/\Dm.okD 8 dx=true/\Dm.okD 8 dy=true/\Q (.bl (if neg then !Dm.eqD dx dy else Dm.eqD dx dy)) H
section
variable{X:Cx}
section
variable{k:Nat}
theorem HA(hr:bP k X.A):OpR X (compareOp .Eq) (KH false):=by intro Dz s σ H x y v u Q I rx ry h;obtain⟨dx,dy,r1,r2,k1,k2,q⟩:=h;obtain⟨as,h1,h2,h3⟩:=(fC I.hok 8).1 x dx v r1 rx k1;obtain⟨bs,h4,h5,h6⟩:=(fC I.hok 8).1 y dy u r2 ry k2;have hu:=hr.units;refine PySem.SeqAt.compareEq_reads h1 h4 h2 h5 (by lia) ?_;rw[rz];exact⟨.bl (Dm.eqD dx dy),H,I,rfl,q⟩
theorem HB(hr:bP k X.A):OpR X (compareOp .NotEq) (KH true):=by intro Dz s σ H x y v u Q I rx ry h;obtain⟨dx,dy,r1,r2,k1,k2,q⟩:=h;obtain⟨as,h1,h2,h3⟩:=(fC I.hok 8).1 x dx v r1 rx k1;obtain⟨bs,h4,h5,h6⟩:=(fC I.hok 8).1 y dy u r2 ry k2;have hu:=hr.units;refine PySem.SeqAt.compareNe_reads h1 h4 h2 h5 (by lia) ?_;rw[rz];exact⟨.bl (!Dm.eqD dx dy),H,I,rfl,q⟩
def KI(neg:Bool):R2:=fun x y H Q=>∃dx ds,Rep H x dx/\(Rep H y (.lst ds)\/Rep H y (.tup ds))/\Dm.okD 8 dx=true/\ds.all (Dm.okD 7)=true/\Q (.bl (if neg then !Dm.inD dx ds else Dm.inD dx ds)) H
theorem l7(x:Dat):∀ds:List Dat,((fB ds).any fun y=>Wu y (toPy x))=Dm.inD x ds
 |[]=>rfl
 |d::ds=>by have:=l7 x ds;unfold Dm.inD at this ⊢;simp only[fB,WD,rz];rw[this]
theorem ON(hr:bP k X.A):OpR X (compareOp .In) (KI false):=by
 intro Dz s σ H x y v u Q I rx ry h;obtain⟨dx,ds,r1,r2,k1,k2,q⟩:=h;obtain⟨as,h1,h2,h3⟩:=(fC I.hok 8).1 x dx v r1 rx k1;have hu:=hr.units;rcases r2 with r2 | r2
 ·obtain⟨bs,h4,h5,h6⟩:=(fC I.hok 8).1 y (.lst ds) u r2 ry k2;have h6:Wy (fB ds)+1<=8:=h6;refine PySem.SeqAt.in_list_reads h4 h1 h5 h2 (by lia) ?_;rw[l7];exact⟨.bl (Dm.inD dx ds),H,I,rfl,q⟩
 ·obtain⟨bs,h4,h5,h6⟩:=(fC I.hok 8).1 y (.tup ds) u r2 ry k2;have h6:Wy (fB ds)+1<=8:=h6;refine PySem.SeqAt.in_tuple_reads h4 h1 h5 h2 (by lia) ?_;rw[l7];exact⟨.bl (Dm.inD dx ds),H,I,rfl,q⟩
theorem FQ(hr:bP k X.A):OpR X (compareOp .NotIn) (KI true):=by
 intro Dz s σ H x y v u Q I rx ry h;obtain⟨dx,ds,r1,r2,k1,k2,q⟩:=h;obtain⟨as,h1,h2,h3⟩:=(fC I.hok 8).1 x dx v r1 rx k1;have hu:=hr.units;rcases r2 with r2 | r2
 ·obtain⟨bs,h4,h5,h6⟩:=(fC I.hok 8).1 y (.lst ds) u r2 ry k2;have h6:Wy (fB ds)+1<=8:=h6;refine PySem.SeqAt.notIn_list_reads h4 h1 h5 h2 (by lia) ?_;rw[l7];exact⟨.bl (!Dm.inD dx ds),H,I,rfl,q⟩
 ·obtain⟨bs,h4,h5,h6⟩:=(fC I.hok 8).1 y (.tup ds) u r2 ry k2;have h6:Wy (fB ds)+1<=8:=h6;refine PySem.SeqAt.notIn_tuple_reads h4 h1 h5 h2 (by lia) ?_;rw[l7];exact⟨.bl (!Dm.inD dx ds),H,I,rfl,q⟩
end
end
section
variable{H0 H:Hp}{ds:List Dat}{v:V}
theorem aQ{i:Int}(r:o_ H0 H v (.int i)):v=.int i:=by
 rcases r with r | ⟨a,_,w⟩
 ·exact Rep.isInt r
 ·exact Vx w
theorem KJ{b:Bool}(r:o_ H0 H v (.bl b)):v=.bl b:=by
 rcases r with r | ⟨a,_,w⟩
 ·exact Rep.Bd r
 ·exact Vx w
theorem cM(s:aJ H0 H)(r:o_ H0 H v (.lst ds)):∃a xs,v=.ref a/\Rd H a (.lst xs)/\aN H0 xs ds:=by
 rcases r with r | ⟨a,e,xs,q,rs⟩
 ·cases r with
  |lst q rs=>exact⟨_,_,rfl,aJ.rd s q,rs⟩
 ·exact⟨a,xs,e,.inl q,rs⟩
theorem l8(s:aJ H0 H)(r:o_ H0 H v (.tup ds)):∃a xs,v=.ref a/\H a=some (.tup xs)/\aN H0 xs ds:=by
 rcases r with r | ⟨a,_,w⟩
 ·cases r with
  |tup q rs=>exact⟨_,_,rfl,s _ _ q,rs⟩
 ·exact Vx w
theorem OO:OpD (rI0 fun i j=>.int (i-j)) Dm.vf:=by
 intro H0 H x y dx dy z Q s rx ry e k;unfold Dm.vf at e;split at e
 ·cases e;cases aQ rx;cases aQ ry;exact⟨_,_,rfl,rfl,k _ H0 H (aW.refl s) (.int _)⟩
 ·cases e
theorem RG:OpD (rI0 fun i j=>.bl (decide (i<j))) Dm.gLt:=by
 intro H0 H x y dx dy z Q s rx ry e k;unfold Dm.gLt at e;split at e
 ·cases e;cases aQ rx;cases aQ ry;exact⟨_,_,rfl,rfl,k _ H0 H (aW.refl s) (.bl _)⟩
 ·cases e
theorem MW:OpD (rI0 fun i j=>.bl (decide (i<=j))) Dm.gLe:=by
 intro H0 H x y dx dy z Q s rx ry e k;unfold Dm.gLe at e;split at e
 ·cases e;cases aQ rx;cases aQ ry;exact⟨_,_,rfl,rfl,k _ H0 H (aW.refl s) (.bl _)⟩
 ·cases e
theorem RH:OpD (rI0 fun i j=>.bl (decide (j<i))) Dm.gGt:=by
 intro H0 H x y dx dy z Q s rx ry e k;unfold Dm.gGt at e;split at e
 ·cases e;cases aQ rx;cases aQ ry;exact⟨_,_,rfl,rfl,k _ H0 H (aW.refl s) (.bl _)⟩
 ·cases e
theorem RI:OpD (rI0 fun i j=>.bl (decide (j<=i))) Dm.gGe:=by
 intro H0 H x y dx dy z Q s rx ry e k;unfold Dm.gGe at e;split at e
 ·cases e;cases aQ rx;cases aQ ry;exact⟨_,_,rfl,rfl,k _ H0 H (aW.refl s) (.bl _)⟩
 ·cases e
theorem OP:OpD (rI (fun _ j=>0<j) fun i j=>.int (i % j)) Dm.tE:=by
 intro H0 H x y dx dy z Q s rx ry e k;unfold Dm.tE at e;split at e
 ·split at e
  ·rename_i hj;cases e;cases aQ rx;cases aQ ry;exact⟨_,_,rfl,rfl,hj,k _ H0 H (aW.refl s) (.int _)⟩
  ·cases e
 ·cases e
theorem OQ:OpD (rI Q7 fun i j=>.int (i ^ j.toNat)) Dm.Bb:=by
 intro H0 H x y dx dy z Q s rx ry e k;unfold Dm.Bb at e;split at e
 ·split at e
  ·rename_i hj;cases e;cases aQ rx;cases aQ ry;exact⟨_,_,rfl,rfl,⟨hj.1,hj.2.1,YN hj.2.2 (by decide)⟩,k _ H0 H (aW.refl s) (.int _)⟩
  ·cases e
 ·cases e
end
section
variable{X:Cx}
def MX(i j:Int):Prop:=0<j/\j<Dm.tw
theorem HC:OpR X (binaryOp .FloorDiv) (rI MX fun i j=>.int (i / j)):=opI fun i j _ _ _ _ _ hc q=>by
 have h:j.natAbs.log2<9000:=by
  have h1:j.natAbs<2 ^ 200:=by
   have:=hc.2;unfold Dm.tw at this;have h2:=hc.1;have e:(2:Nat) ^ 200=1606938044258990275541962092341162602522202993782792835301376:=by decide +kernel
   omega
  have h3:j.natAbs≠0:=by have:=hc.1;omega
  have:=(YQ h3).mpr h1;omega
 have e:i.fdiv j=i / j:=Int.fdiv_eq_ediv_of_nonneg i (Int.le_of_lt hc.1);rw[<- e]at q;exact floordiv_int (Int.ne_of_gt hc.1) q (.inl (PyProof.noPylong_of_log2 h))
end
theorem OR:OpD (rI MX fun i j=>.int (i / j)) Dm.C0:=by
 intro H0 H x y dx dy z Q s rx ry e k;unfold Dm.C0 at e;split at e
 ·split at e
  ·rename_i hj;cases e;cases aQ rx;cases aQ ry;exact⟨_,_,rfl,rfl,hj,k _ H0 H (aW.refl s) (.int _)⟩
  ·cases e
 ·cases e
theorem OS:UnD (rU fun i=>.int (-i)) Dm.Hq:=by
 intro H0 H x dx z Q s rx e k;unfold Dm.Hq at e;split at e
 ·cases e;cases aQ rx;exact⟨_,rfl,k _ H0 H (aW.refl s) (.int _)⟩
 ·cases e
def HD:R2:=fun x y H Q=>∃l b xs zs,x=.ref l/\y=.ref b/\Rd H l (.lst xs)/\Rd H b (.lst zs)/\xs.length+zs.length<=sizeLine/\∀p,H p=none->Q (.ref p) (upd H p (.lst (xs++zs)))
def HE:R2:=fun x y H Q=>∃l k xs,x=.ref l/\y=.int k/\Rd H l (.lst xs)/\-(2 ^ 63)<=k/\k<2 ^ 63/\xs.length*k.toNat<=sizeLine /\
 ∀p,H p=none->Q (.ref p) (upd H p (.lst (Dp k.toNat xs).flatten))
section
variable{X:Cx}
theorem KL:OpR X (binaryOp .Add) HD:=by
 intro Dz s σ H x y v u Q I rx ry h;obtain⟨l,b,xs,zs,rfl,rfl,hH,hB,hz,q⟩:=h;cases rx;cases ry;obtain⟨z,its,n,r,e⟩:=hH.ok I.hok;obtain⟨z2,its2,n2,r2,e2⟩:=hB.ok I.hok;have hl:=r.length;have hl2:=r2.length;refine PySem.P.add_list e e2 ?_ (by rw[Vo,Vo];lia);have ea:its.toArray++its2.toArray=(its++its2).toArray:=by simp
 rw[ea];exact⟨.ref _,_,I.Oz (t':=s.toks) (r.append r2) (by rw[Vn];lia),rfl,q _ I.fresh⟩
theorem KN:OpR X (binaryOp .Mult) HE:=by
 intro Dz s σ H x y v u Q I rx ry h;obtain⟨l,k,xs,rfl,rfl,hH,h1,h2,hz,q⟩:=h;cases rx;obtain⟨t,rfl⟩:=ry;obtain⟨z,its,n,r,e⟩:=hH.ok I.hok;have hl:=r.length;have IY:its.toArray.size*k.toNat<=sizeLine:=by rw[Vo,<- hl];exact hz
 have hcap:¬its.toArray.size*k.toNat>(2 ^ 63-1) / 8:=by
  have:(sizeLine:Nat)<=(2 ^ 63-1) / 8:=by decide
  lia
 have hfit:¬(!Builtin.List.listFitsIndex k)=true:=by rw[fitsIndex_both h1 h2];exact VL
 have RJ:¬Xg (its.toArray.size*k.toNat)=true:=by rw[A6 IY];exact VL
 have hnew:YU (fun x1 x2=>x1++x2) #[] (Dp (if its.toArray.isEmpty=true then 0 else k.toNat) its.toArray)=(Dp k.toNat its).flatten.toArray:=by
  have f0:∀m:Nat,YU (fun x1 x2=>x1++x2) #[] (Dp m its.toArray)=(Dp m its).flatten.toArray:=fun m=>by have:=foldl_rep its m [];rw[WW]at this;exact this
  rw[f0];cases its with
  |nil=>simp
  |cons a r'=>rw[if_neg (by simp)]
 refine wpAny_binaryOp_repeat_ref (T := "list") (U := "int") (by decide) ⟨_,e,rfl⟩ (fun s'=>typeIs_int s' k t) noFill_list_mul F.fills_int_mul F.slot_int_rmul repeat_list F.slot_int_index.lookup
  (call_meets F.slot_int_rmul (typeIs_int s k t) F.entry_int_rmul (F.args_int_rmul_2 _ _) (int___rmul___int_list k t l its.toArray n)
   ⟨e,rfl,⟨_,e,rfl⟩,call_meets F.slot_list_mul ⟨_,e,rfl⟩ F.entry_list_mul (F.args_list_mul_2 _ _) (AutoListH.list___mul___list_int_3 l its.toArray n k t hfit hcap RJ) ⟨e,?_⟩⟩)
 rw[hnew];exact⟨.ref _,_,I.Oz (t':=s.toks) (r.rep k.toNat) (by rw[len_rep,Nat.mul_comm];exact hz),rfl,q _ I.fresh⟩
theorem KP:OpR X (binaryOp .Add) (fun x y H Q=>rI0 (fun i j=>.int (i+j)) x y H Q\/HD x y H Q):=Oa.or KL
theorem KQ:OpR X (binaryOp .Mult) (fun x y H Q=>rI GP (fun i j=>.int (i*j)) x y H Q\/HE x y H Q):=Oc.or KN
end
theorem OT:OpD (fun x y H Q=>rI0 (fun i j=>.int (i+j)) x y H Q\/HD x y H Q) Dm.b_:=by
 intro H0 H x y dx dy z Q s rx ry e k;unfold Dm.b_ at e;split at e
 ·cases e;cases aQ rx;cases aQ ry;exact .inl ⟨_,_,rfl,rfl,k _ H0 H (aW.refl s) (.int _)⟩
 ·split at e
  ·rename_i hz;cases e;obtain⟨a,us,rfl,qa,ra⟩:=cM s rx;obtain⟨b,ws,rfl,qb,rb⟩:=cM s ry;refine .inr ⟨a,b,us,ws,rfl,rfl,qa,qb,by rw[ra.length,rb.length];exact v_ hz,fun p hp=>?_⟩;exact k _ _ _ (aW.wX s hp) ⟨p,rfl,hp,s.free hp,_,aL,ra.append rb⟩
  ·cases e
 ·cases e
theorem OU:OpD (fun x y H Q=>rI GP (fun i j=>.int (i*j)) x y H Q\/HE x y H Q) Dm.l0:=by
 intro H0 H x y dx dy z Q s rx ry e k;unfold Dm.l0 at e;split at e
 ·split at e
  ·rename_i hj;cases e;cases aQ rx;cases aQ ry;exact .inl ⟨_,_,rfl,rfl,hj,k _ H0 H (aW.refl s) (.int _)⟩
  ·cases e
 ·split at e
  ·rename_i hz;cases e;cases aQ ry;obtain⟨a,us,rfl,qa,ra⟩:=cM s rx;obtain⟨h1,h2,h3⟩:=hz;unfold Dm.BIG at h1 h2;refine .inr ⟨a,_,us,rfl,rfl,qa,by lia,by lia,by rw[ra.length];exact v_ h3,fun p hp=>?_⟩;exact k _ _ _ (aW.wX s hp) ⟨p,rfl,hp,s.free hp,_,aL,ra.rep _⟩
  ·cases e
 ·cases e
theorem MY:OpD (KH false) Dm.gEq:=by
 intro H0 H x y dx dy z Q s rx ry e k;unfold Dm.gEq at e;split at e
 ·rename_i hk;rw[Vv]at hk;cases e;exact⟨dx,dy,rx.full s,ry.full s,hk.1,hk.2,k _ H0 H (aW.refl s) (.bl _)⟩
 ·cases e
theorem MZ:OpD (KH true) Dm.gNe:=by
 intro H0 H x y dx dy z Q s rx ry e k;unfold Dm.gNe at e;split at e
 ·rename_i hk;rw[Vv]at hk;cases e;exact⟨dx,dy,rx.full s,ry.full s,hk.1,hk.2,k _ H0 H (aW.refl s) (.bl _)⟩
 ·cases e
theorem RK:OpD (KI false) Dm.gIn:=by
 intro H0 H x y dx dy z Q s rx ry e k;unfold Dm.gIn at e;split at e
 ·split at e
  ·rename_i hk;rw[Vv]at hk;cases e;exact⟨dx,_,rx.full s,.inl (ry.full s),hk.1,hk.2,k _ H0 H (aW.refl s) (.bl _)⟩
  ·cases e
 ·split at e
  ·rename_i hk;rw[Vv]at hk;cases e;exact⟨dx,_,rx.full s,.inr (ry.full s),hk.1,hk.2,k _ H0 H (aW.refl s) (.bl _)⟩
  ·cases e
 ·cases e
theorem HF:OpD (KI true) Dm.tF:=by
 intro H0 H x y dx dy z Q s rx ry e k;unfold Dm.tF at e;split at e
 ·split at e
  ·rename_i hk;rw[Vv]at hk;cases e;exact⟨dx,_,rx.full s,.inl (ry.full s),hk.1,hk.2,k _ H0 H (aW.refl s) (.bl _)⟩
  ·cases e
 ·split at e
  ·rename_i hk;rw[Vv]at hk;cases e;exact⟨dx,_,rx.full s,.inr (ry.full s),hk.1,hk.2,k _ H0 H (aW.refl s) (.bl _)⟩
  ·cases e
 ·cases e
theorem Ey{H0:Hp}{xs:List V}{ds:List Dat}{i:Int}{d:Dat}(rs:aN H0 xs ds)(e:Dm.atI ds i=some d):∃v,L2.atI xs i=some v/\Rep H0 v d:=by
 unfold Dm.atI at e;cases q:Dm.ixN ds.length i with
 |none=>rw[q]at e;cases e
 |some j=>rw[q]at e;obtain⟨v,hv,r⟩:=rs.get (i:=j) e;refine⟨v,?_,r⟩;unfold L2.atI;rw[rs.length];have q':L2.ixN ds.length i=some j:=q;rw[q'];exact hv
theorem RL{K:Dk}:OpD (fun x y H Q=>Ot K x y H Q\/Rf K x y H Q) Dm.gIx:=by
 intro H0 H x y dx dy z Q s rx ry e k;unfold Dm.gIx at e;split at e
 ·rename_i ds i;cases q:Dm.atI ds i with
  |none=>rw[q]at e;cases e
  |some d=>rw[q]at e;cases e;cases aQ ry;obtain⟨a,us,rfl,qa,ra⟩:=cM s rx;obtain⟨v,hv,rv⟩:=Ey ra q;exact .inl ⟨a,us,i,v,rfl,rfl,.inl qa,hv,k _ H0 H (aW.refl s) rv⟩
 ·rename_i ds i;cases q:Dm.atI ds i with
  |none=>rw[q]at e;cases e
  |some d=>rw[q]at e;cases e;cases aQ ry;obtain⟨a,us,rfl,qa,ra⟩:=l8 s rx;obtain⟨v,hv,rv⟩:=Ey ra q;exact .inr ⟨a,us,i,v,rfl,rfl,.inl (.inl qa),hv,k _ H0 H (aW.refl s) rv⟩
 ·cases e
theorem OV{K:Dk}:CallD (fun xs H Q=>∃p ys,xs=[.ref p]/\(SqL K H p ys\/SqT K H p ys)/\Q (.int ys.length) H) Dm.yJ:=by
 intro H0 H vs ds z Q s rs e k;unfold Dm.yJ at e;split at e
 ·cases e;cases rs with
  |cons r rr=>cases rr;obtain⟨a,us,rfl,qa,ra⟩:=cM s r;exact⟨a,us,rfl,.inl (.inl qa),k _ H0 H (aW.refl s) (by rw[ra.length];exact .int _)⟩
 ·cases e;cases rs with
  |cons r rr=>cases rr;obtain⟨a,us,rfl,qa,ra⟩:=l8 s r;exact⟨a,us,rfl,.inr (.inl (.inl qa)),k _ H0 H (aW.refl s) (by rw[ra.length];exact .int _)⟩
 ·cases e
theorem KR:CallD (fun xs H Q=>∃i j,xs=[.int i,.int j]/\Q (.int (if j<i then j else i)) H) Dm.zd:=by
 intro H0 H vs ds z Q s rs e k;unfold Dm.zd at e;split at e
 ·cases e;cases rs with
  |cons r rr=>
   cases rr with
   |cons r' rr=>cases rr;cases aQ r;cases aQ r';exact⟨_,_,rfl,k _ H0 H (aW.refl s) (.int _)⟩
 ·cases e
theorem KS:CallD (fun xs H Q=>∃i j,xs=[.int i,.int j]/\Q (.int (if j>i then j else i)) H) Dm.ze:=by
 intro H0 H vs ds z Q s rs e k;unfold Dm.ze at e;split at e
 ·cases e;cases rs with
  |cons r rr=>
   cases rr with
   |cons r' rr=>cases rr;cases aQ r;cases aQ r';exact⟨_,_,rfl,k _ H0 H (aW.refl s) (.int _)⟩
 ·cases e
theorem KU{K:Dk}:CallD (fun xs H Q=>∃p ys,xs=[.ref p]/\(SqL K H p ys\/SqT K H p ys)/\∀l,H l=none->Q (.ref l) (upd H l (.lst ys))) Dm.Er:=by
 intro H0 H vs ds z Q s rs e k;unfold Dm.Er at e;split at e
 ·cases e;cases rs with
  |cons r rr=>cases rr;obtain⟨a,us,rfl,qa,ra⟩:=cM s r;exact⟨a,us,rfl,.inl (.inl qa),fun p hp=>k _ _ _ (aW.wX s hp) ⟨p,rfl,hp,s.free hp,_,aL,ra⟩⟩
 ·cases e;cases rs with
  |cons r rr=>cases rr;obtain⟨a,us,rfl,qa,ra⟩:=l8 s r;exact⟨a,us,rfl,.inr (.inl (.inl qa)),fun p hp=>k _ _ _ (aW.wX s hp) ⟨p,rfl,hp,s.free hp,_,aL,ra⟩⟩
 ·cases e
theorem HG{K:Dk}:CallD (fun xs H Q=>∃p ys,xs=[.ref p]/\((SqL K H p ys/\∀l,H l=none->Q (.ref l) (upd H l (.tup ys)))\/(SqT K H p ys/\Q (.ref p) H))) Dm.tG:=by
 intro H0 H vs ds z Q s rs e k;unfold Dm.tG at e;split at e
 ·cases e;cases rs with
  |cons r rr=>cases rr;obtain⟨a,us,rfl,qa,ra⟩:=cM s r;refine⟨a,us,rfl,.inl ⟨.inl qa,fun p hp=>?_⟩⟩;have g:=aW.Hr (o:=HO.tup us) s hp;exact k _ _ _ g (.tup aL (ra.mono g.s0))
 ·cases e;cases rs with
  |cons r rr=>
   cases rr;rcases r with r | ⟨a,_,w⟩
   ·cases r with
    |tup q rs=>exact⟨_,_,rfl,.inr ⟨.inl (.inl (s _ _ q)),k _ H0 H (aW.refl s) (.tup q rs)⟩⟩
   ·exact Vx w
 ·cases e
noncomputable abbrev DS(X:Cx)(st:Stmt)(f:FS):Prop:=PS X st (tDS f)
noncomputable abbrev DSs(X:Cx)(st:List Stmt)(f:FS):Prop:=PSs X st (tDS f)
noncomputable abbrev DI(X:Cx)(tg it:Expr)(f:Dm.FI):Prop:=PI X tg it (tDI f)
theorem PI.weak{X:Cx}{tg it:Expr}{t t':TI}(h:PI X tg it t)(k:∀σ H R,t' σ H R->t σ H R):PI X tg it t':=fun Dz s σ H R I q=>h Dz s σ H R I (k σ H R q)
section
variable{X:Cx}{a b c e:Expr}{fa fb fc f:FE}{pos:Pos}
section
variable{g:Dat->Dat->Option RV}{k:Nat}{r:List V->Hp->VK->Prop}{Nl:List Expr}{x:Str}
theorem d_v(i:Nat)(hN:X.N[i]?=some x:=by rfl)(hv:Vis X.env.scope x:=by trivial)(hd:(x == ("__debug__" : Str))=false:=by decide)
  (SK:(x == ("__classdict__" : Str))=false:=by decide):DE X (.Name x pos) (Dm.eV i):=PE.weak (kG hN hv hd SK) fun _ _ _=>Rk
theorem d_i{i:Int}{j}:DE X (.Constant (.int i) j pos) (Dm.eC (.int i)):=PE.weak NT fun _ _ _=>z8 fun _=>.int i
theorem d_b{v:Bool}{j}:DE X (.Constant (.bool v) j pos) (Dm.eC (.bl v)):=PE.weak QX fun _ _ _=>z8 fun _=>.bl v
theorem d_n{j}:DE X (.Constant .none j pos) (Dm.eC .non):=PE.weak NU fun _ _ _=>z8 fun _=>.non
theorem FU{op:Operator}{r:R2}(o:OpR X (binaryOp op) r)(od:OpD r g)(ha:DE X a fa)(hb:DE X b fb):DE X (.BinOp a op b pos) (Dm.e2 g fa fb):=
 PE.weak (Q4 o ha hb) fun _ _ _=>z_ od
theorem cN(ha:DE X a fa)(hb:DE X b fb):DE X (.BinOp a .Add b pos) (Dm.e2 Dm.b_ fa fb):=FU KP OT ha hb
theorem Bj(ha:DE X a fa)(hb:DE X b fb):DE X (.BinOp a .Sub b pos) (Dm.e2 Dm.vf fa fb):=FU Ob OO ha hb
theorem oZ(ha:DE X a fa)(hb:DE X b fb):DE X (.BinOp a .Mult b pos) (Dm.e2 Dm.l0 fa fb):=FU KQ OU ha hb
theorem M0(ha:DE X a fa)(hb:DE X b fb):DE X (.BinOp a .FloorDiv b pos) (Dm.e2 Dm.C0 fa fb):=FU HC OR ha hb
theorem uQ(ha:DE X a fa)(hb:DE X b fb):DE X (.BinOp a .Mod b pos) (Dm.e2 Dm.tE fa fb):=FU Od OP ha hb
theorem HH(ha:DE X a fa)(hb:DE X b fb):DE X (.BinOp a .Pow b pos) (Dm.e2 Dm.Bb fa fb):=FU Oe OQ ha hb
theorem M3(ha:DE X a fa):DE X (.UnaryOp .USub a pos) (Dm.e1 Dm.Hq fa):=PE.weak (Q5 Of ha) fun _ _ _=>Ub OS
theorem M4{op:CmpOp}{r:R2}(o:OpR X (compareOp op) r)(od:OpD r g)(ha:DE X a fa)(hb:DE X b fb)(hm:behindInMarks op b=false):DE X (.Compare a [op] [b] pos) (Dm.e2 g fa fb):=
 PE.weak (Kl o ha hb hm) fun _ _ _=>z_ od
theorem uR{op:CmpOp}{r:R2}(o:OpR X (compareOp op) r)(od:OpD r g)(ha:DE X a fa)(hb:DE X b fb)(hm:behindInMarks op b=false):DT X (.Compare a [op] [b] pos) (Dm.tV (Dm.e2 g fa fb)):=
 PT.weak (Km o ha hb hm) fun σ H Q h=>z_ od (wY h)
theorem RM(hr:bP k X.A)(ha:DE X a fa)(hb:DE X b fb):DE X (.Compare a [.Eq] [b] pos) (Dm.e2 Dm.gEq fa fb):=M4 (HA hr) MY ha hb (lW _)
theorem Ul(hr:bP k X.A)(ha:DE X a fa)(hb:DE X b fb):DE X (.Compare a [.NotEq] [b] pos) (Dm.e2 Dm.gNe fa fb):=M4 (HB hr) MZ ha hb (lW _)
theorem KW(hr:bP k X.A)(ha:DE X a fa)(hb:DE X b fb):DT X (.Compare a [.Eq] [b] pos) (Dm.tV (Dm.e2 Dm.gEq fa fb)):=uR (HA hr) MY ha hb (lW _)
theorem RN(hr:bP k X.A)(ha:DE X a fa)(hb:DE X b fb):DT X (.Compare a [.NotEq] [b] pos) (Dm.tV (Dm.e2 Dm.gNe fa fb)):=uR (HB hr) MZ ha hb (lW _)
theorem OW(ha:DE X a fa)(hb:DE X b fb):DT X (.Compare a [.Lt] [b] pos) (Dm.tV (Dm.e2 Dm.gLt fa fb)):=uR Q8 RG ha hb (lW _)
theorem OX(ha:DE X a fa)(hb:DE X b fb):DT X (.Compare a [.Gt] [b] pos) (Dm.tV (Dm.e2 Dm.gGt fa fb)):=uR Q9 RH ha hb (lW _)
theorem Um(ha:DE X a fa)(hb:DE X b fb):DT X (.Compare a [.GtE] [b] pos) (Dm.tV (Dm.e2 Dm.gGe fa fb)):=uR Q_ RI ha hb (lW _)
theorem RO(hr:bP k X.A)(ha:DE X a fa)(hb:DE X b fb)(hm:behindInMarks .In b=false:=by rfl):DT X (.Compare a [.In] [b] pos) (Dm.tV (Dm.e2 Dm.gIn fa fb)):=uR (ON hr) RK ha hb hm
theorem RP(hr:bP k X.A)(ha:DE X a fa)(hb:DE X b fb)(hm:behindInMarks .NotIn b=false:=by rfl):DT X (.Compare a [.NotIn] [b] pos) (Dm.tV (Dm.e2 Dm.tF fa fb)):=uR (FQ hr) HF ha hb hm
theorem i7(ha:DE X a fa)(hb:DE X b fb)(hs:zZ b:=by intro _ _;rfl):DE X (.Subscript a b pos) (Dm.e2 Dm.gIx fa fb):=PE.weak (MS (Ek.or Ou) ha hb hs) fun _ _ _=>z_ RL
theorem aG:DA X [] []:=PA.weak sW fun _ _ _=>Rl
theorem af{es:List Expr}{fs:List FE}(h:DE X e f)(r:DA X es fs)(hs:starEach (e::es) X.env=(false,eval e X.env)::starEach es X.env:=by rfl):DA X (e::es) (f::fs):=PA.weak (kI h r hs) fun _ _ _=>OD
theorem l9{es:List Expr}{fs:List FE}{x1}(h:DA X es fs):DE X (.Tuple es x1 pos) (Dm.jy fs):=PE.weak (Oj h) fun _ _ _=>Rn
theorem i8{es:List Expr}{fs:List FE}(h:DA X es fs):DE X (.List es pos) (Dm.jz fs):=PE.weak (CS h) fun _ _ _=>Ro
theorem KY{es:List Expr}{fs:List FE}{g:List Dat->Option RV}{id:String}{p:Pos}(hc:fy X (.builtin id) r)(cd:CallD r g)(hv:bootBuiltins x=some (.builtin id))(hg:Gl X x)(hm:X.mg x=none)(ha:DA X (e::es) fs)
  (hn:x ≠ "__name__" := by decide) (SS:(x == ("__debug__" : Str))=false:=by decide) (he:starEach (e::es) X.env=(false,eval e X.env)::starEach es X.env:=by rfl) (Nm:(backTo pos (starEach es X.env)).any (·.1)=false:=by rfl) :
  DE X (.Call (.Name x p) (e::es) [] pos) (Dm.eB g fs):=PE.weak (qZ hc hg hm hv ha hn SS he Nm) fun _ _ _=>Rm cd
theorem HJ{es:List Expr}{fs:List FE}{g:List Dat->Option RV}{T:String}{p:Pos}(hc:fy X (.type T) r)(cd:CallD r g)(hv:bootBuiltins x=some (.type T))(hg:Gl X x)(hm:X.mg x=none)(ha:DA X (e::es) fs)
  (hn:x ≠ "__name__" := by decide) (SS:(x == ("__debug__" : Str))=false:=by decide) (he:starEach (e::es) X.env=(false,eval e X.env)::starEach es X.env:=by rfl) (Nm:(backTo pos (starEach es X.env)).any (·.1)=false:=by rfl) :
  DE X (.Call (.Name x p) (e::es) [] pos) (Dm.eB g fs):=PE.weak (Fx hc hg hm hv ha hn SS he Nm) fun _ _ _=>Rm cd
variable{es:List Expr}{fs:List FE}{p:Pos}
theorem Bk(hg:Gl X "len")(hm:X.mg "len" = none)(ha:DA X [e] fs)(he:starEach [e] X.env=[(false,eval e X.env)]:=by rfl)(Nm:(backTo pos (starEach [] X.env)).any (·.1)=false:=by rfl):DE X (.Call (.Name "len" p) [e] [] pos) (Dm.eB Dm.yJ fs):=KY z4 OV PySem.boot_len hg hm ha (he:=he) (Nm:=Nm)
theorem HK(hc:X.calm=true)(hg:Gl X "min")(hm:X.mg "min" = none)(ha:DA X [a,b] fs)(he:starEach [a,b] X.env=(false,eval a X.env)::starEach [b] X.env:=by rfl)(Nm:(backTo pos (starEach [b] X.env)).any (·.1)=false:=by rfl):DE X (.Call (.Name "min" p) [a,b] [] pos) (Dm.eB Dm.zd fs):=KY (Fq hc) KR (by rfl) hg hm ha (he:=he) (Nm:=Nm)
theorem HL(hc:X.calm=true)(hg:Gl X "max")(hm:X.mg "max" = none)(ha:DA X [a,b] fs)(he:starEach [a,b] X.env=(false,eval a X.env)::starEach [b] X.env:=by rfl)(Nm:(backTo pos (starEach [b] X.env)).any (·.1)=false:=by rfl):DE X (.Call (.Name "max" p) [a,b] [] pos) (Dm.eB Dm.ze fs):=KY (Fp hc) KS (by rfl) hg hm ha (he:=he) (Nm:=Nm)
theorem OY(hg:Gl X "list")(hm:X.mg "list" = none)(ha:DA X [e] fs)(he:starEach [e] X.env=[(false,eval e X.env)]:=by rfl)(Nm:(backTo pos (starEach [] X.env)).any (·.1)=false:=by rfl):DE X (.Call (.Name "list" p) [e] [] pos) (Dm.eB Dm.Er fs):=HJ z5 KU (by rfl) hg hm ha (he:=he) (Nm:=Nm)
theorem KZ(hg:Gl X "tuple")(hm:X.mg "tuple" = none)(ha:DA X [e] fs)(he:starEach [e] X.env=[(false,eval e X.env)]:=by rfl)(Nm:(backTo pos (starEach [] X.env)).any (·.1)=false:=by rfl):DE X (.Call (.Name "tuple" p) [e] [] pos) (Dm.eB Dm.tG fs):=HJ yI HG (by rfl) hg hm ha (he:=he) (Nm:=Nm)
theorem b5{F:Addr}{fd:FuncData}{ps:List Str}{g:List Dat->Option RV}(G:ck X.prog X.w X.K X.mg X.base CX0 k F fd ps (spD g))(hr:bP k X.A)(hg:Gl X x)(hm:X.mg x=some (.ref F))(hk:Wc X.K (.ref F)=true)(hb:Binds X.K fd ps [])
  (ha:DA X (e::es) fs) (SS:(x == ("__debug__" : Str))=false:=by decide) (he:starEach (e::es) X.env=(false,eval e X.env)::starEach es X.env:=by rfl) (Nm:(backTo pos (starEach es X.env)).any (·.1)=false:=by rfl) :
  DE X (.Call (.Name x p) (e::es) [] pos) (Dm.eF g fs):=PE.weak (v8 G hr hg hm hk hb .nil (En (X:=X)) ha SS he Nm) fun _ _ _=>OE
theorem Ez{op}(h:DE X a fa):DE X (.BoolOp op [a] pos) fa:=NX h
theorem Bl(ha:DE X a fa)(hb:DE X (.BoolOp .And (b::Nl) pos) fb):DE X (.BoolOp .And (a::b::Nl) pos) (Dm.vh fa fb):=PE.weak (NY ha hb) fun _ _ _=>Rp
theorem RQ(ha:DE X a fa):DE X (.UnaryOp .Not a pos) (Dm.FG fa):=PE.weak (NZ ha) fun _ _ _=>Rq
noncomputable abbrev DW(X:Cx)(e:Expr)(f:FT):Prop:=PW X e (tDT f)
theorem PW.weak{t t':TT}(h:PW X e t)(k:∀σ H Q,t' σ H Q->t σ H Q):PW X e t':=fun whole Dz s σ H Q I q=>h whole Dz s σ H Q I (k σ H Q q)
variable{ta tb:FT}
theorem tL(h:DT X a ta):DW X (.BoolOp .And [a] pos) ta:=pw_and1 h
theorem M5(h:DT X a ta):DW X (.BoolOp .Or [a] pos) ta:=pw_or1 h
theorem w_and(ha:DT X a ta)(hb:DW X (.BoolOp .And (b::Nl) pos) tb):DW X (.BoolOp .And (a::b::Nl) pos) (Dm.o7 ta tb):=PW.weak (pw_and ha hb) fun _ _ _=>OH
theorem w_or(ha:DT X a ta)(hb:DW X (.BoolOp .Or (b::Nl) pos) tb):DW X (.BoolOp .Or (a::b::Nl) pos) (Dm.tOr ta tb):=PW.weak (pw_or ha hb) fun _ _ _=>Rt
theorem t_w(h:DW X a ta):DT X a ta:=h.pt
theorem EA(h:DT X a ta):DT X (.UnaryOp .Not a pos) (Dm.sV ta):=PT.weak (NW h) fun _ _ _=>OG
theorem EB(h:DE X e f)(he:∀whole,isTrue e X.env whole=(do let v <- whole;standAt e.pos;holding [v] (truthy v)):=by intro _;rfl):DT X e (Dm.tV f):=PT.weak (NV h he) fun _ _ _=>wY
variable{tg:Expr}
theorem FW(hg:Gl X "range")(hm:X.mg "range" = none)(ha:DA X [a] [fa])(hs:starEach [a] X.env=[(false,eval a X.env)]:=by rfl):DI X tg (.Call (.Name "range" p) [a] [] pos) (Dm.iR1 fa):=
 PI.weak (Fi hg hm ha hs) fun _ _ _=>RA
theorem Uo(hg:Gl X "range")(hm:X.mg "range" = none)(ha:DA X [a,b] [fa,fb])(hs:starEach [a,b] X.env=[(false,eval a X.env),(false,eval b X.env)]:=by rfl)(hs2:starEach [b] X.env=[(false,eval b X.env)]:=by rfl):DI X tg (.Call (.Name "range" p) [a,b] [] pos) (Dm.iR2 fa fb):=
 PI.weak (Fj hg hm ha hs hs2) fun _ _ _=>RB
end
end
section
variable{X:Cx}{st:Stmt}{Nl:List Stmt}{fs gs:FS}{e a b c:Expr}{f fa fb:FE}{pos:Pos}
section
variable{is:List Nat}{body:List Stmt}{x:Str}{es:List Expr}{t:FT}
theorem o4:DSs X [] Dm.sNx:=PSs.weak Ke fun _ _ _=>Uc
theorem aI(h1:DS X st fs)(h2:DSs X Nl gs):DSs X (st::Nl) (Dm.aR fs gs):=PSs.weak (kc h1 h2) fun _ _ _=>Ru
theorem bq(h1:DS X st fs):DSs X [st] fs:=Ed h1
theorem s_a(i:Nat){x:Str}{pos':Pos}(hN:X.N.Nodup)(he:DE X e f)(hi:X.N[i]?=some x:=by rfl)(hx:Loc X.env.scope x:=by trivial)(hs:swapsWith e (some (.Name x pos')) pos.line X.env=pure false:=by rfl)
  (hf:X.fn x=true\/X.env.scope.names.lookup x=some .local:=by trivial):DS X (.Assign [.Name x pos'] e pos) (Dm.sA i f):=PS.weak (N8 hN hi hx he hs hf) fun _ _ _=>Hv
theorem Ad:PGs X [] (pB []):=Kf
theorem jj(i:Nat){px:Pos}(hN:X.N.Nodup)(h2:PGs X es (pB is))(hi:X.N[i]?=some x:=by rfl)(hx:Loc X.env.scope x:=by trivial)
  (hf:X.fn x=true\/X.env.scope.names.lookup x=some .local:=by trivial) (hs:(assignEach (.Name x px::es) X.env).map (·.2)=assign (.Name x px) X.env::(assignEach es X.env).map (·.2):=by rfl):PGs X (.Name x px::es) (pB (i::is)):=GH (zW hN hi hx hf) h2 hs
theorem s_e(he:DE X e f)(hs:swapsWith e none pos.line X.env=pure false:=by rfl):DS X (.Expr e pos) (Dm.sE f):=PS.weak (qW he hs) fun _ _ _=>OI
theorem s_r(he:DE X e f):DS X (.Return (some e) pos) (Dm.sR f):=PS.weak (N1 he) fun _ _ _=>Rv
theorem xj{x y:List Stmt}(ht:DT X c t)(ha:DSs X x fs)(hb:DSs X y gs):DS X (.If c x y pos) (Dm.sIf t fs gs):=PS.weak (GF ht ha hb) fun _ _ _=>Rw
theorem K0:DS X st (fun _=>none):=PS.weak GG fun _ _ _ ⟨_,_,_,_,z,_⟩=>by cases z
theorem HM(i:Nat){px ap cp:Pos}(he:DE X e f)(hi:X.N[i]?=some x:=by rfl)(hv:Vis X.env.scope x:=by trivial)(hd:(x == ("__debug__" : Str))=false:=by decide)
  (SK:(x == ("__classdict__" : Str))=false:=by decide) (Tr:attributeBase (.Name x px) "append" X.env (eval (.Name x px) X.env)=eval (.Name x px) X.env:=by rfl)
  (hfew:((backTo cp (starEach [e] X.env)).all (fun x=>!x.1)&&(backToKw cp (keywordEach [] X.env)).all (fun x=>x.1.isSome)
   && decide ([e].length+([]:List Keyword).length+(if ([]:List Keyword).isEmpty then 0 else 1)<30))=true:=by rfl)
  (SV:(ap.endLine == cp.line)=true:=by rfl) (hs:starEach [e] X.env=(false,eval e X.env)::starEach [] X.env:=by rfl) (R1:(backTo cp (starEach [] X.env)).any (·.1)=false:=by rfl)
  (hsw:swapsWith (.Call (.Attribute (.Name x px) "append" ap) [e] [] cp) none pos.line X.env=pure false:=by rfl) :
  DS X (.Expr (.Call (.Attribute (.Name x px) "append" ap) [e] [] cp) pos) (Dm.Ba i f):=
 PS.weak (qW (El Xk PySem.F.slot_list_append PySem.F.type_list_append sY (kG hi hv hd SK) (af he aG hs) Tr hfew SV hs R1) hsw) fun _ _ _=>Rx
theorem RS(i:Nat){j:Expr}{fj:FE}{px sp:Pos}(hj:DE X j fj)(he:DE X e f)(hi:X.N[i]?=some x:=by rfl)(hv:Vis X.env.scope x:=by trivial)(hd:(x == ("__debug__" : Str))=false:=by decide)
  (SK:(x == ("__classdict__" : Str))=false:=by decide) (ha:∀ v,assign (.Subscript (.Name x px) j sp) X.env v=(do
   let ov <- holding [v] (eval (.Name x px) X.env)
   let iv <- holding [v,ov] (eval j X.env)
   standAt sp
   holding [v,ov,iv] (setItem ov iv v)
   release [v,ov,iv] []):=by intro _;rfl)
  (hs:swapsWithSole [.Subscript (.Name x px) j sp] e pos.line X.env=pure false:=by rfl) (hw:swappedStores [.Subscript (.Name x px) j sp] e X.env=pure none:=by rfl) (h1:(assignEach [.Subscript (.Name x px) j sp] X.env).map (·.2)=[assign (.Subscript (.Name x px) j sp) X.env]:=by rfl) :
  DS X (.Assign [.Subscript (.Name x px) j sp] e pos) (Dm.FH i fj f):=PS.weak (N7 he (N6 (kG hi hv hd SK) hj set_list ha) hs hw h1) fun _ _ _=>Ry
theorem RT(n:Nat)(hp:PassesOwn (model X.prog X.w) X.A X.env X.xe)(ht:DT X c t)(hb:DSs X body fs):DS X (.While c body [] pos) (Dm.whD t fs n):=PS.weak (GJ hp ht hb) fun _ _ _=>KC
structure TG'(X:Cx)(tg:Expr)(is:List Nat)(bd:Dm.FB):Prop where
 ex:∃g,PG X tg g/\BD is g bd
theorem g_n(i:Nat){px:Pos}(hN:X.N.Nodup)(hi:X.N[i]?=some x:=by rfl)(hx:Loc X.env.scope x:=by trivial)(hf:X.fn x=true\/X.env.scope.names.lookup x=some .local:=by trivial) :
  TG' X (.Name x px) [i] (Dm.bN i):=⟨⟨_,zW hN hi hx hf,Ew i⟩⟩
theorem g_t{k:Nat}{tpos:Pos}(hc:X.calm=true)(hg:PGs X es (pB is))(hn:(assignEach es X.env).length=is.length:=by rfl)(hst:(assignEach es X.env).findIdx? (·.1)=none:=by rfl):TG' X (.Tuple es k tpos) is (Dm.bT is):=
 ⟨⟨_,N5 hc hg hn hst,OJ is rfl⟩⟩
theorem uS{tg it:Expr}{fi:Dm.FI}{bd:Dm.FB}(hp:PassesOwn (model X.prog X.w) X.A X.env X.xe)(hc:X.calm=true)(hi:DI X tg it fi)(hg:TG' X tg is bd)(hb:DSs X body fs)
  (hs:∀x,foldedSetIterable it X.env x=pure x:=by intro _;rfl):DS X (.For tg it body [] pos) (Dm.tu fi bd fs):=by
 obtain⟨g,h1,h2⟩:=hg.ex;exact PS.weak (GO hp hc hi h1 hb hs) fun _ _ _=>Rz h2
end
end
noncomputable def tyName:Dat->String
 |.non => "NoneType"
 |.bl _ => "bool"
 |.int _ => "int"
 |.str _ => "str"
 |.tup _ => "tuple"
 |.lst _ => "list"
 |.dct _ _ => "dict"
 |.dcp _ _ => "dict"
 |.exc _ => "dict"
 |.cY _ _ => "dict"
 |.fn _ => "dict"
def K1(T:String)(p:Dat->Bool):Prop:=∀(K:Dk) (d:Dat),eg K (.type (tyName d)) (.type T)=some (p d)
theorem K2:K1 "int" Dm.isI:=fun K d=>by cases d<;>rfl
theorem HN:K1 "bool" Dm.isB:=fun K d=>by cases d<;>rfl
theorem HP{K:Dk}{H:Hp}{v:V}{d:Dat}(r:Rep H v d)(nx:∀C,d≠.exc C/\d≠.fn C/\∀v,d≠.cY C v):qY K H v (.type (tyName d)):=by
 cases r with
 |non=>exact .non
 |bl b=>exact .bl b
 |int i=>exact .int i
 |str s=>exact .str _
 |tup q _=>exact .tup q
 |lst q _=>
  rcases q with q | ⟨o,q⟩
  ·exact .lst q
  ·exact .frz q
 |dct q _ _=>exact .dK q
 |dcp q _ _=>exact .dT q
 |exc _=>exact absurd rfl (nx _).1
 |cY _ _=>exact absurd rfl ((nx _).2.2 _)
 |fn _=>exact absurd rfl (nx _).2.1
def RU(K:Dk)(T:String):List V->Hp->VK->Prop:=fun xs H Q=>∃x t b,xs=[x,.ty T]/\qY K H x t/\eg K t (.type T)=some b/\Q (.bl b) H
section
variable{X:Cx}{e:Expr}{f:FE}{p p2 pos:Pos}
theorem HQ{T:String}:fy X (.builtin "isinstance") (RU X.K T):=by intro Dz s σ H xs us Q I r h;obtain⟨x,t,b,rfl,ty,e,q⟩:=h;obtain⟨u,u2,rfl,rx,ry⟩:=vals2 r;cases ry;exact Fv I rx ty e fun tk=>⟨.bl b,H,I.tok tk,rfl,q⟩
theorem RW{K:Dk}{T:String}{p:Dat->Bool}(kp:K1 T p){σ:L2.St}{H:Hp}{Q:VK}(h:tD (Dm.e1 (Dm.Ho p) f) σ H Q):tCB (RU K T) (yX (tD f) (yX (tC (.ty T)) CQ)) σ H Q:=by
 obtain⟨H0,ρ,x,ρ',st,e,k⟩:=h;unfold Dm.e1 at e;split at e
 ·cases e
 rename_i x1 ρ1 e1;split at e
 ·cases e
 rename_i dx p1;have nx:∀C,dx≠.exc C/\dx≠.fn C/\∀v,dx≠.cY C v:=fun C=>⟨fun z=>(by subst z;cases e),fun z=>(by subst z;cases e),fun v z=>(by subst z;cases e)⟩;have ev:Dm.Ho p dx=Dm.vB (p dx):=by cases dx<;>first | rfl | exact absurd rfl (nx _).1 | exact absurd rfl (nx _).2.1 | exact absurd rfl ((nx _).2.2 _)
 rw[ev]at e;dsimp only at e;cases e;refine⟨H0,ρ,x1,_,st,e1,fun v H1 Hb t1 r1=>?_⟩;exact⟨v,_,_,rfl,HP ((r1.look t1.st p1).full t1.st.same) nx,kp K dx,k _ H1 Hb t1 (Rep.bl _)⟩
theorem M6{T:String}{tn:Str}{p':Dat->Bool}(kp:K1 T p')(hvT:bootBuiltins tn=some (.type T))(hgT:Gl X tn)(hmT:X.mg tn=none)(hg:Gl X "isinstance")(hm:X.mg "isinstance" = none)(h:DE X e f)
  (hn:tn ≠ "__name__" := by decide) (SS:(tn == ("__debug__" : Str))=false:=by decide)
  (he:starEach [e,.Name tn p2] X.env=(false,eval e X.env)::starEach [.Name tn p2] X.env:=by rfl) (Nm:(backTo pos (starEach [.Name tn p2] X.env)).any (·.1)=false:=by rfl) (he2:starEach [.Name tn p2] X.env=(false,eval (.Name tn p2) X.env)::starEach [] X.env:=by rfl) :
  DE X (.Call (.Name "isinstance" p) [e,.Name tn p2] [] pos) (Dm.e1 (Dm.Ho p') f):=
 PE.weak (qZ HQ hg hm Xp (kI h (kI (Ec (v:=.ty T) hgT hmT hvT rfl hn SS) sW he2) he) (he:=he) (Nm:=Nm)) fun _ _ _=>RW kp
end
section
variable{X:Cx}{a b c e:Expr}{f fa fb fc:FE}{p p2 pos:Pos}
section
variable{g h:Dat->Dat->Option RV}{σ:L2.St}{Q:VK}{H:Hp}
theorem K3{r r':R2}(o1:OpD r g)(o2:OpD r' h)(hh:tD (Dm.o9 g h fa fb fc) σ H Q):GQ r r' (tD fa) (tD fb) (tD fc) σ H Q:=by
 obtain⟨H0,ρ,x,ρ',st,e,k⟩:=hh;unfold Dm.o9 at e;split at e
 ·cases e
 rename_i x1 ρ1 e1;split at e
 ·cases e
 rename_i y1 ρ2 e2;split at e
 ·cases e
 rename_i dx p1;split at e
 ·cases e
 rename_i dy p2;refine⟨H0,ρ,x1,ρ1,st,e1,fun v H1 Hb t1 r1=>⟨H1,ρ1,y1,ρ2,t1.st,e2,fun u H2 Hc t2 r2=>?_⟩⟩;split at e
 ·rename_i gz;refine o1 H2 Hc v u dx dy _ _ t2.st.same ((r1.mono t2).look t2.st p1) (r2.look t2.st p2) gz fun w H3 Hd g3 r3=>?_;refine⟨true,Rep.Bd r3,?_⟩;rw[if_pos rfl];have t3:=t2.trans (.grow t2.st g3);have r2':=r2.mono (.grow t2.st g3);split at e
  ·cases e
  rename_i z ρ3 e3;split at e
  ·cases e
  rename_i dy' p3;split at e
  ·cases e
  rename_i dz p4;split at e
  ·cases e
  rename_i w2 hz;cases e;refine⟨H3,ρ2,z,_,t3.st,e3,fun w' H4 He t4 r4=>?_⟩;refine o2 H4 He u w' dy' dz w2 Q t4.st.same ((r2'.mono t4).look t4.st p3) (r4.look t4.st p4) hz fun w5 H5 Hf g5 r5=>?_;exact k w5 H5 Hf (t1.trans (t3.trans (t4.trans (.grow t4.st g5)))) ((r5.toV t4.st).early fun a n=>(t1.trans (t3.trans t4)).stp.gone n)
 ·rename_i gz;cases e;refine o1 H2 Hc v u dx dy _ _ t2.st.same ((r1.mono t2).look t2.st p1) (r2.look t2.st p2) gz fun w H3 Hd g3 r3=>?_;refine⟨false,Rep.Bd r3,?_⟩;rw[if_neg VL];exact k _ H3 Hd (t1.trans (t2.trans (.grow t2.st g3))) (Rep.bl false)
 ·cases e
theorem K4{op op':CmpOp}{r r':R2}(o1:OpR X (compareOp op) r)(q1:OpD r g)(o2:OpR X (compareOp op') r')(q2:OpD r' h)(ha:DE X a fa)(hb:DE X b fb)(hc:DE X c fc)
  (hm:lastMarks [op,op'] [b,c]=false:=by with_unfolding_all rfl):DE X (.Compare a [op,op'] [b,c] pos) (Dm.o9 g h fa fb fc):=PE.weak (GR o1 o2 ha hb hc hm) fun _ _ _=>K3 q1 q2
theorem Ae(n d:Nat)(o:Option Int)(hd:d<=n):HT.sIx n d o=Dm.sIx n d o:=by
 cases o with
 |none=>rfl
 |some v=>
  unfold HT.sIx Dm.sIx
  first
   |rfl
   |(dsimp only;split<;>lia)
theorem zg{H0:Hp}{xs:List V}{ds:List Dat}(rs:aN H0 xs ds)(lo hi:Option Int):aN H0 (yG xs lo hi) (Dm.cut ds lo hi):=by unfold yG Dm.cut;rw[rs.length,Ae _ _ _ (VN _),Ae _ _ _ (Nat.le_refl _)];exact(rs.drop _).take _
theorem wc{fo:Option FE}{H0 H:Hp}{ρ ρ':Dm.Env}{o:Option Int}{Q:Option Int->Hp->Prop}(st:aM H0 H σ ρ)(e:Dm.part fo ρ=some (o,ρ'))(k:∀H0' H',ESt σ ρ H0 H ρ' H0' H'->Q o H') :
  (match fo with | none=>zY | some f=>GW (tD f)) σ H Q:=by
 cases fo with
 |none=>cases e;exact k H0 H (.refl st)
 |some f=>
  unfold Dm.part at e;dsimp only at e;split at e
  ·rename_i i ρ1 e1;cases e;exact⟨H0,ρ,_,_,st,e1,fun v H1 Hb t1 r1=>⟨i,Rep.isInt r1,k H1 Hb t1⟩⟩
  ·cases e
noncomputable abbrev tOf(fo:Option FE):TO:=match fo with | none=>zY | some f=>GW (tD f)
theorem Up{K:Dk}{lo hi:Option FE}(h:tD (Dm.eSl f lo hi) σ H Q):tSl (Rg K) (tD f) (tOf lo) (tOf hi) σ H Q:=by
 obtain⟨H0,ρ,x,ρ',st,e,k⟩:=h;unfold Dm.eSl at e;split at e
 ·cases e
 rename_i x1 ρ1 e1;split at e
 ·cases e
 rename_i l ρ2 e2;split at e
 ·cases e
 rename_i hh ρ3 e3;split at e
 ·rename_i ds p1;cases e;refine⟨H0,ρ,x1,ρ1,st,e1,fun v H1 Hb t1 r1=>?_⟩;refine wc t1.st e2 fun H2 Hc t2=>?_;refine wc t2.st e3 fun H3 Hd t3=>?_;have tt:=t1.trans (t2.trans t3);obtain⟨a,xs,rfl,qa,ra⟩:=cM t3.st.same ((r1.mono (t2.trans t3)).look t3.st p1);refine⟨a,xs,rfl,.inl qa,fun q hq=>?_⟩;have g:=aW.wX (o:=HO.lst (yG xs l hh)) t3.st.same hq;refine k _ _ _ (tt.trans (.grow t3.st g)) ⟨q,rfl,tt.stp.gone hq,t3.st.cL hq,t3.st.same.free hq,_,aL,zg ra l hh⟩
 ·cases e
theorem Uq{lo hi:Option Expr}{flo fhi:Option FE}(h:DE X e f)(hl:PO X lo (tOf flo))(hh:PO X hi (tOf fhi)):DE X (.Subscript e (.Slice lo hi none p2) pos) (Dm.eSl f flo fhi):=PE.weak (A5 Kr h hl hh) fun _ _ _=>Up
theorem o_n:PO X none (tOf none):=Kp
theorem o_s(h:DE X e f):PO X (some e) (tOf (some f)):=Kq h
end
end
section
variable{X:Cx}{nm:List Str}{SN tg iter:Expr}{Sl:List Expr}{scope:Scope}{pos:Pos}{own:List Str}{fi:Dm.FI}{bd:Dm.FB}{is:List Nat}{t:FT}{f:FE}
noncomputable abbrev DTs(X:Cx)(Sl:List Expr)(t:FT):Prop:=PTs X Sl (tDT t)
theorem pC:DTs X [] Dm.iE:=fun Dz s σ H Q I h=>by obtain⟨H0,ρ,b,ρ',st,e,k⟩:=h;cases e;exact Ab Dz s σ H Q I (k H0 H (.refl st))
theorem xm{c:Expr}(h:DT X c t):DTs X [c] t:=KG h
structure TGc(X:Cx)(nm:List Str)(scope:Scope)(own:List Str)(tg:Expr)(is:List Nat)(bd:Dm.FB):Prop where
 ex:∃g,(∀cl C s H fp,PG (bI X nm scope own cl C s H fp) tg g)/\BD is g bd
theorem c_n(i:Nat){x:Str}{px:Pos}(hN:(nm++own).Nodup)(hi:(nm++own)[i]?=some x)(hx:(relabel scope X.env).names.lookup x=some .local):TGc X nm scope own (.Name x px) [i] (Dm.bN i):=
 ⟨⟨_,fun cl C s H fp=>zW (X:=bI X nm scope own cl C s H fp) hN hi (.inl hx) (.inr hx),Ew i⟩⟩
theorem OZ(hc:X.calm=true)(S:gB X nm scope)(hi:DI X tg iter fi)(hg:TGc X nm scope own tg is bd)(ht:∀cl C s H fp,DTs (bI X nm scope own cl C s H fp) Sl t)(he:∀cl C s H fp,DE (bI X nm scope own cl C s H fp) SN f)
  (hl:∀i∈is,X.N.length<=i) (hs:∀x,foldedSetIterable iter X.env x=pure x:=by intro _;rfl):DE X (.ListComp SN [⟨tg,iter,Sl,0⟩] scope pos) (Dm.gy fi own.length bd t f):=by
 obtain⟨g,h1,h2⟩:=hg.ex;intro Dz s σ H Q I h;exact Ex hc S hi h1 ht he hs Dz s σ H Q I (Aa h2 (fun i hi=>by rw[I.len];exact hl i hi) h)
theorem O0(j:Nat){y:Str}{py Qm:Pos}(hN:X.N.Nodup)(hc:X.calm=true)(S:gB X nm scope)(hi:DI X tg iter fi)(hg:TGc X nm scope own tg is bd)(ht:∀cl C s H fp,DTs (bI X nm scope own cl C s H fp) Sl t)(he:∀cl C s H fp,DE (bI X nm scope own cl C s H fp) SN f)
  (hl:∀i∈is,X.N.length<=i) (hj:X.N[j]?=some y:=by rfl) (hy:Loc X.env.scope y:=by trivial)
  (hsw:swapsWith (.ListComp SN [⟨tg,iter,Sl,0⟩] scope pos) (some (.Name y py)) Qm.line X.env=pure true:=by rfl) (hs:∀x,foldedSetIterable iter X.env x=pure x:=by intro _;rfl)
  (hf:X.fn y=true\/X.env.scope.names.lookup y=some .local:=by trivial):DS X (.Assign [.Name y py] (.ListComp SN [⟨tg,iter,Sl,0⟩] scope pos) Qm) (Dm.sA j (Dm.gy fi own.length bd t f)):=by
 obtain⟨g,h1,h2⟩:=hg.ex;intro Dz s σ H D I h;exact i6 hN hj hy hc S hi h1 ht he hsw hs hf Dz s σ H D I (Aa h2 (fun i hi=>by rw[I.len];exact hl i hi) (Hv h))
end
noncomputable def iI(sc:Scope):List Str->List Str->Bool
 |[],[]=>true
 |x::N,y::nm=>(x == y||(sc.names.lookup y).isNone)&&iI sc N nm
 |_,_=>false
theorem iI.len{sc:Scope}:∀{N nm:List Str},iI sc N nm=true->nm.length=N.length
 |[],[],_=>rfl
 |[],_::_,h=>by cases h
 |_::_,[],h=>by cases h
 |x::N,y::nm,h=>by rw[iI,Vv]at h;rw[VX,VX,iI.len h.2]
theorem iI.at{sc:Scope}:∀{N nm:List Str},iI sc N nm=true->∀(i:Nat) (x:Str),nm[i]?=some x->N[i]?=some x\/sc.names.lookup x=none
 |[],[],_,i,x,e=>by simp at e
 |[],_::_,h,_,_,_=>by cases h
 |_::_,[],h,_,_,_=>by cases h
 |x::N,y::nm,h,0,z,e=>by
  rw[iI,Vv,Bool.or_eq_true]at h;simp at e;subst e;rcases h.1 with q | q
  ·have:x=y:=by simpa using q
   subst this;exact .inl rfl
  ·exact .inr (by simpa using q)
 |x::N,y::nm,h,i+1,z,e=>by rw[iI,Vv]at h;rw[WZ]at e ⊢;exact iI.at h.2 i z e
noncomputable def rA(osc:Scope)(N nm:List Str)(sc:Scope):Bool:=
 sc.names.all (fun y=>y.2 != .cell)&&sc.names.all (fun y=>y.2 != .local||sc.names.lookup y.1 == some .local) &&
 sc.names.all (fun y=>y.2 != .free||(osc.names.lookup y.1 == some .cell||osc.names.lookup y.1 == some .free))&&nm.all (fun x=>sc.names.lookup x != some .local)&&iI sc N nm
theorem gB.of{X:Cx}{nm:List Str}{scope:Scope}(h:rA X.env.scope X.N nm scope=true)(hk:scope.kind=.function):gB X nm scope:=by
 unfold rA at h;simp only[Vv,Wv]at h;obtain⟨⟨⟨⟨h1,h2⟩,h3⟩,h4⟩,h5⟩:=h;refine⟨hk,fun y hy=>?_,fun y hy hl=>?_,fun y hy hf=>?_,fun x hx=>?_,iI.len h5,iI.at h5⟩
 ·have:=h1 y hy;simpa using this
 ·have:=h2 y hy;rw[hl]at this
  simpa using this
 ·have:=h3 y hy;rw[hf]at this;have:(X.env.scope.names.lookup y.1 == some .cell||X.env.scope.names.lookup y.1 == some .free)=true:=by simpa using this
  rw[Bool.or_eq_true,beq_iff_eq,beq_iff_eq]at this;exact this
 ·have:=h4 x hx;simpa using this
section
variable{X:Cx}{SN tg iter:Expr}{Sl:List Expr}{scope:Scope}{pos:Pos}{fi:Dm.FI}{bd:Dm.FB}{is:List Nat}{t:FT}{f:FE}
theorem xo{l:List Nat}{n:Nat}(h:(l.all fun i=>decide (n<=i))=true):∀i∈l,n<=i:=fun i hi=>of_decide_eq_true (Wv.mp h i hi)
theorem Ur(nm own:List Str)(hg:TGc X nm scope own tg is bd)(hi:DI X tg iter fi)(ht:∀cl C s H fp,DTs (bI X nm scope own cl C s H fp) Sl t)(he:∀cl C s H fp,DE (bI X nm scope own cl C s H fp) SN f)
  (hc:X.calm=true:=by rfl) (hk:scope.kind=.function:=by rfl) (hS:rA X.env.scope X.N nm scope=true:=by rfl) (hl:(is.all fun i=>decide (X.N.length<=i))=true:=by rfl) (hs:∀x,foldedSetIterable iter X.env x=pure x:=by intro _;rfl) :
  DE X (.ListComp SN [⟨tg,iter,Sl,0⟩] scope pos) (Dm.gy fi own.length bd t f):=OZ hc (gB.of hS hk) hi hg ht he (xo hl) hs
theorem RX(j:Nat)(nm own:List Str){y:Str}{py Qm:Pos}(hN:X.N.Nodup)(hg:TGc X nm scope own tg is bd)(hi:DI X tg iter fi)(ht:∀cl C s H fp,DTs (bI X nm scope own cl C s H fp) Sl t)(he:∀cl C s H fp,DE (bI X nm scope own cl C s H fp) SN f)
  (hc:X.calm=true:=by rfl) (hk:scope.kind=.function:=by rfl) (hS:rA X.env.scope X.N nm scope=true:=by rfl) (hl:(is.all fun i=>decide (X.N.length<=i))=true:=by rfl) (hj:X.N[j]?=some y:=by rfl) (hy:Loc X.env.scope y:=by trivial)
  (hsw:swapsWith (.ListComp SN [⟨tg,iter,Sl,0⟩] scope pos) (some (.Name y py)) Qm.line X.env=pure true:=by rfl) (hs:∀x,foldedSetIterable iter X.env x=pure x:=by intro _;rfl)
  (hf:X.fn y=true\/X.env.scope.names.lookup y=some .local:=by trivial):DS X (.Assign [.Name y py] (.ListComp SN [⟨tg,iter,Sl,0⟩] scope pos) Qm) (Dm.sA j (Dm.gy fi own.length bd t f)):=
 O0 j hN hc (gB.of hS hk) hi hg ht he (xo hl) hj hy hsw hs hf
end
section
variable{f:FE}{a:Addr}{X:Cx}{H:Hp}
theorem PI.or{tg it:Expr}{t t':TI}(h:PI X tg it t)(h':PI X tg it t'):PI X tg it (fun σ H R=>t σ H R\/t' σ H R):=fun Dz s σ H R I q=>q.elim (h Dz s σ H R I) (h' Dz s σ H R I)
theorem RY{K:Dk}{σ:L2.St}{R:It->Hp->Prop}(h:tDI (Dm.iS f) σ H R):AZ K (tD f) σ H R\/GL K (tD f) σ H R:=by
 obtain⟨H0,ρ,ys,ρ',st,e,k⟩:=h;unfold Dm.iS at e;split at e
 ·cases e
 rename_i x ρ1 e1;split at e
 ·rename_i ds ρ2 e2;cases e;exact .inl (Ud ⟨H0,ρ,_,_,st,by unfold Dm.iL;rw[e1];dsimp only;rw[e2],k⟩)
 ·rename_i ds ρ2 e2;cases e;exact .inr (Ue ⟨H0,ρ,_,_,st,by unfold Dm.iT;rw[e1];dsimp only;rw[e2],k⟩)
 ·cases e
theorem i_S{tg e:Expr}(h:DE X e f):DI X tg e (Dm.iS f):=PI.weak (PI.or (Ef h) (GN h)) fun _ _ _=>RY
noncomputable def HR(K:Dk):Bool:=K.all fun p=>match p.2.cls with | .type n=>n != "list" | _=>true
theorem lookup_mem{o:Obj}:∀{K:List (Addr×Obj)},K.lookup a=some o->(a,o)∈K
 |[],h=>by cases h
 |(b,x)::r,h=>by
  rw[V5]at h;cases q:a == b with
  |true=>
   rw[q]at h;cases h;have:a=b:=by simpa using q
   rw[this];exact PU
  |false=>rw[q]at h;exact Ds _ (lookup_mem h)
theorem O3{f:List Dat->Option RV}{K:Dk}{ns:List Int}{E:XK}(hf:f [.lst (ns.map Dat.int)]=some (.val (.bl true)))(hK:HR K=true)(hS:SqL K H a (ns.map V.int)) :
  spD f [.ref a] H (fun v _=>v=.bl true) E:=by
 have hq:Rd H a (.lst (ns.map V.int)):=by
  rcases hS with h | ⟨o,its,n,hk,hc,_⟩
  ·exact h
  ·have:=Wv.mp hK _ (lookup_mem hk);dsimp only at this;rw[hc]at this;exact absurd this (by decide)
 have hr:∀ns:List Int,aN H (ns.map V.int) (ns.map Dat.int):=fun ns=>by
  induction ns with
  |nil=>exact .nil
  |cons n ns ih=>exact .cons (.int n) ih
 exact⟨H,_,_,aJ.refl _,.cons (.lst hq (hr ns)) .nil,hf,fun v H0' H' _ r=>Rep.Bd r⟩
end
end Br
namespace Dm
noncomputable def iRd(a b c:FE):FI:=fun ρ=>match a ρ with
 | some (.val (.int i),ρ1)=>(match b ρ1 with
  | some (.val (.int j),ρ2)=>(match c ρ2 with
   |some (.val (.int k),ρ3)=>if k=-1/\j<=BIG/\-BIG<=j/\i<=BIG/\-BIG<=i then some (downs i (i-j).toNat,ρ3) else none
   |_=>none)
  |_=>none)
 |_=>none
noncomputable def rB:Nat->List Dat->List Dat
 |_,[]=>[]
 |i,d::ds=>.tup [.int (i:Nat),d]::rB (i+1) ds
noncomputable def iEn(a:FE):FI:=fun ρ=>match a ρ with
 |none=>none
 |some (x,ρ1)=>match tk ρ1 x with
  |some (.lst ds,ρ2)=>some (rB 0 ds,ρ2)
  |_=>none
end Dm
namespace Br
open PySem PySem.Spec PyProof.Rows L2
theorem FY{X:Cx}{Dz:List (Addr×Obj)}{σ:L2.St}{H:Hp}{s:Shared}{h':Heap}{t':Nat}{fp:List Addr}{p:Addr}{o:HO}(I:Inv X Dz σ H s)(hf:∀b∈fp,zX X Dz H b)
  (k:∀b u,b∉fp->s.heap.get? b=some u->h'.get? b=some u) (hp:s.heap.objs.size<=p) (new:bC X.prog X.w (upd H p o) h' p o):Inv X Dz σ (upd H p o) { s with heap:=h',toks:=t' }:=by
 have hn:H p=none:=I.hok.fresh hp;have nf:∀b u,H b=some u->b∉fp:=fun b u e z=>by rw[(hf b z).1]at e;cases e
 have nL:X.env.locals∉fp:=fun z=>(hf _ z).2.1 rfl;refine I.step (g':=s.gens) (d':=s.drawn) (ch:=fp) (fun b hb=>?_) (fun b u _ _ hc e _=>k b u hc e) (fun b u _ _ hc e _=>⟨u.slots,k b u hc e⟩)
  (fun b u _ e n=>by rw[aH (VC (Vr (Vl e) hp))];exact n) (fun b u hc e=>⟨u,k b u hc e⟩)
  (fun b xs q=>by rw[aH (aT q hn)];exact q) (fun b u xs q=>by rw[aH (aT q hn)];exact q) (fun b _ _ _ q=>by rw[aH (aT q hn)];exact q) (fun m hm=>?_) (fun b u e=>?_) I.bare
 ·obtain⟨f0,f1,f2,f3,f4,f5⟩:=hf b hb;exact⟨f3,f1,f4,f5⟩
 ·obtain⟨o,es,ep,ho,r⟩:=hm;exact⟨o,es,ep,k _ o nL ho,r⟩
 ·by_cases hb:b=p
  ·subst hb;rw[aL]at e;cases e;exact new
  ·rw[aH hb]at e;refine(I.hok b u e).stay (fun c v hc q=>k c v ?_ q) (fun c q=>by rw[aH (aT q hn)];exact q) (fun c _ _ q=>by rw[aH (aT q hn)];exact q) fun c xs q=>by rw[aH (aT q hn)];exact q
   rcases hc with z | z
   ·rw[z];exact nf b u e
   ·exact nf c _ z
noncomputable def Ite(K:Dk)(a:Addr):It:=
 ⟨fun i H=>∃xs x,SqL K H a xs/\xs[i]?=some x,fun i H x H'=>∃p v,H p=none/\x=.ref p/\H'=upd H p (.tup [.int i,v])/\∀xs,SqL K H a xs->xs[i]?=some v,fun i H=>∃xs,SqL K H a xs/\xs.length<=i⟩
theorem FZ{P:Program}{w:World}{K:Dk}{elts:List Expr}{x1}{tp:Pos}(a e it:Addr)(UN:e≠it):Turn P w K (.Tuple elts x1 tp) (Ite K a) [e,it] e (fun i h=>(∃old,IsEnum h e it (i:Nat) old)/\h.IsListIter it a i) where
 mem:=by simp
 obj:=fun i h st b hb=>by
  obtain⟨⟨old,he⟩,o,e1,c,d⟩:=st;rcases Vq.mp hb with rfl | hb
  ·exact ⟨_,he,fun v z=>by have z':Data.fields _=Data.cell v:=z;cases z'⟩
  ·have e2:b=it:=by simpa using hb
   subst e2;exact⟨o,e1,fun v z=>by rw[d]at z;cases z⟩
 keep:=fun i h h' st k=>⟨let ⟨old,he⟩:=st.1;⟨old,k e (by simp) _ he⟩,st.2.at fun o z=>k it (by simp) o z⟩
 item:=by
  intro X hP hw hK hc i Dz s σ H E I hf st hg;subst hP hw hK;obtain⟨xs,x,hq,hx⟩:=hg;obtain⟨its,rv,p,hz⟩:=I.list hq;obtain⟨u,hu,ru⟩:=rv.get hx;obtain⟨⟨old,he⟩,SQ⟩:=st;refine wpAny_pyNext_enum_item he SQ p.isList (x:=u) (by simpa using hu) UN fun h1 heo Us ht1 hz1 hk1=>?_;refine⟨_,rfl,wpAny_letOwnedTupleGo_enum heo fun h2 he2 hs2=>?_⟩;have Qc:e<s.heap.objs.size:=Vl he;have ht2:h2.get? s.heap.objs.size=some { cls:=.type "tuple",data:=.seq #[.int i s.toks,u] }:=(hs2.2 _ (Yy Qc)).trans ht1;have k2:∀b o,b∉[e,it]->s.heap.get? b=some o->h2.get? b=some o:=fun b o hb z=>by have n1:b≠e:=fun y=>hb (by simp[y]);have n2:b≠it:=fun y=>hb (by simp[y]);exact(hs2.2 b n1).trans (hk1 b o n1 n2 z)
  have hn:H s.heap.objs.size=none:=I.hok.fresh (Nat.le_refl _);have I2:Inv X Dz σ (upd H s.heap.objs.size (.tup [.int i,x])) { s with heap:=h2,toks:=s.toks+1 }:=
   FY I hf k2 (Nat.le_refl _) ⟨by simp[sizeLine],[.int i s.toks,u],.cons ⟨s.toks,rfl⟩ (.cons ru .nil),_,ht2,rfl,_,rfl⟩
  refine⟨.ref s.heap.objs.size,_,I2,rfl,⟨_,x,hn,rfl,rfl,fun ys hy=>by rw[I.AW hy hq];exact hx⟩,⟨⟨u,?_⟩,?_⟩,fun b hb=>?_⟩
  ·have:(((i+1:Nat):Int))=(i:Int)+1:=by lia
   rw[this];exact he2
  ·exact Us.at fun o z=>(hs2.2 it (VS UN)).trans z
  ·have hb1:b≠s.heap.objs.size:=fun y=>by
    rcases Vq.mp hb with z | z
    ·rw[y]at z;exact absurd z (Yy Qc)
    ·have z':b=it:=by simpa using z
     obtain⟨o,ho,_⟩:=SQ;have:=Vl ho;rw[<- z',y]at this;exact W6 _ this
   rw[aH hb1];exact(hf b hb).1
 done:=by intro X hP hw hK hc i Dz s σ H E I hf st hg;subst hP hw hK;obtain⟨xs,hq,hx⟩:=hg;obtain⟨its,rv,p,hz⟩:=I.list hq;obtain⟨f0,f1,f2,f3,f4,f5⟩:=hf it (by simp);obtain⟨⟨old,he⟩,SQ⟩:=st;have hl:=rv.length;exact wpAny_pyNext_enum_end (I.ok.hd hc) he SQ p.isList (by simp;lia) fun h' eb=>⟨rfl,I.turned (t':=s.toks) (fun b o hb e=>eb b o hb e) f0 f1 f3 f4 f5⟩
 self:=fun A i s Q E st h=>by
  obtain⟨⟨old,he⟩,SQ⟩:=st;have hT:s.TypeIs (.ref e) "enumerate" := ⟨_,he,rfl⟩
  refine wpAny_pyIter_slot hT F.slot_enumerate_iter (wpAny_call_entry F.slot_enumerate_iter hT F.entry_enumerate_iter ?_ (F.args_enumerate_iter_1 _));show wpAny _ _ (ret (.ref e)) _ _ s;exact wpAny_pure ⟨_,rfl,"enumerate",_,hT,F.slot_enumerate_next.lookup,h⟩
def RZ(K:Dk)(tl:TE):TI:=fun σ H R=>tl σ H fun x H1=>∃a,x=.ref a/\(∃xs,SqL K H1 a xs)/\R (Ite K a) H1
section
variable{X:Cx}{l:Expr}{tl:TE}{p pos:Pos}{elts:List Expr}{x1:Nat}{tp:Pos}
theorem K5(hg:Gl X "enumerate")(hm:X.mg "enumerate" = none)(hl:PE X l tl)(hs:starEach [l] X.env=[(false,eval l X.env)]:=by rfl):PI X (.Tuple elts x1 tp) (.Call (.Name "enumerate" p) [l] [] pos) (RZ X.K tl):=by
 intro Dz s σ H R I h;refine Call_ (sU I hg hm boot_enumerate (W0 (spliced_more ?_ (by rw[hs];rfl)) (by rw[hs];rfl) rfl));refine thn (hl Dz s σ H _ I h) fun v s1 ⟨x,H1,I1,r1,q1⟩=>?_;obtain⟨a,e,⟨xs,hq⟩,q⟩:=q1;subst e;cases r1;obtain⟨its,rv,pl,hz⟩:=I1.list hq;refine XM (call_enumerate_list pl.isList fun h' he SQ hsz k=>?_);have I2:Inv X Dz σ H1 { s1 with heap:=h' }:=I1.kept (t':=s1.toks) k;have T:=FZ (P:=X.prog) (w:=X.w) (K:=X.K) (elts:=elts) (x1:=x1) (tp:=tp) a (s1.heap.objs.size+1) s1.heap.objs.size (Nat.succ_ne_self _);refine T.self X.A 0 { s1 with heap:=h' } _ X.xe ⟨⟨_,he⟩,SQ⟩ ?_;refine⟨s1.heap.objs.size+1,[s1.heap.objs.size+1,s1.heap.objs.size],_,_,H1,rfl,I2,T,⟨⟨_,he⟩,SQ⟩,fun b hb=>?_,q⟩;have:s1.heap.objs.size<=b:=by
  rcases Vq.mp hb with rfl | hb
  ·exact XR _
  ·have:b=s1.heap.objs.size:=by simpa using hb
   exact Nat.le_of_eq this.symm
 exact I1.Kg this (I1.hok.fresh this)
end
theorem Bo:∀(ds:List Dat) (i:Nat),(Dm.rB i ds).length=ds.length
 |[],_=>rfl
 |_::ds,i=>by simp[Dm.rB,Bo ds]
theorem Bp:∀(ds:List Dat) (i j:Nat) (d:Dat),(Dm.rB i ds)[j]?=some d->∃x,ds[j]?=some x/\d=.tup [.int ((i+j:Nat):Int),x]
 |[],_,_,_,h=>by cases h
 |x::ds,i,0,d,h=>by cases h;exact⟨x,rfl,rfl⟩
 |x::ds,i,j+1,d,h=>by
  obtain⟨y,h1,h2⟩:=Bp ds (i+1) j d h;refine⟨y,h1,?_⟩;rw[h2];have:i+1+j=i+(j+1):=by lia
  rw[this]
theorem K6{K:Dk}{H0:Hp}{a:Addr}{xs:List V}{ds:List Dat}(hq:Rd H0 a (.lst xs))(rs:aN H0 xs ds):JW (Ite K a) H0 (Dm.rB 0 ds):=by intro H0' H s0 s1;have q:SqL K H a xs:=.inl (aJ.rd s1 (aJ.rd s0 hq));refine⟨fun i hi=>⟨xs,q,by rw[rs.length,<- Bo ds 0];exact hi⟩,fun i d e=>?_⟩;obtain⟨d',hd,rfl⟩:=Bp ds 0 i d e;obtain⟨v,hv,rv⟩:=rs.get hd;refine⟨⟨xs,v,q,hv⟩,fun x H' y=>?_⟩;obtain⟨p,v',hn,rfl,rfl,y⟩:=y;have z:=y xs q;rw[hv]at z;cases z;have g:=aW.Hr (o:=HO.tup [.int i,v]) s1 hn;refine⟨_,g,.tup aL (.cons ?_ (.cons ((rv.mono s0).mono g.s0) .nil))⟩;rw[X0];exact .int _
section
variable{σ:L2.St}{H:Hp}{R:It->Hp->Prop}
theorem R0{K:Dk}{f:FE}(h:tDI (Dm.iEn f) σ H R):RZ K (tD f) σ H R:=by
 obtain⟨H0,ρ,ys,ρ',st,e,k⟩:=h;unfold Dm.iEn at e;split at e
 ·cases e
 rename_i x ρ1 e1;split at e
 ·rename_i ds ρ2 e2;cases e;refine⟨H0,ρ,_,ρ1,st,e1,fun v H0' H' t r=>?_⟩;obtain⟨H1,t1,b1,r1,_,_⟩:=take1 t (aJ.refl _) r e2;cases r1 with
  |lst q rs=>exact⟨_,rfl,⟨_,.inl (aJ.rd t1.st.same q)⟩,k _ H1 H' t1 (K6 q rs)⟩
 ·cases e
end
section
variable{X:Cx}{tg e a b c:Expr}{f fa fb fc:FE}{p pos p0 Bm:Pos}{elts:List Expr}{x1:Nat}{tp:Pos}
theorem Ut(hg:Gl X "enumerate")(hm:X.mg "enumerate" = none)(h:DE X e f)(hs:starEach [e] X.env=[(false,eval e X.env)]:=by rfl):DI X (.Tuple elts x1 tp) (.Call (.Name "enumerate" p) [e] [] pos) (Dm.iEn f):=PI.weak (K5 hg hm h hs) fun _ _ _=>R0
end
end Br
namespace Dm
noncomputable def bQ(i:Nat)(own:Nat)(bd:FB)(t:FT)(el:FE):FE:=fun ρ=>match ρ[i]? with
 | some (.ow (.lst ds))=>if ds.length≤SZ then (match lM bd t el ds (ρ.set i .un++Dp own .un) [] with
  |none=>none
  |some (ys,ρ2)=>some (.new (.lst ys),(ρ2.take ρ.length).set i (.ow (.lst ds)))) else none
 |_=>gy (iS (eV i)) own bd t el ρ
end Dm
namespace Br
open PySem PySem.Spec PyProof.Rows L2
theorem HS{K:Dk}{H0:Hp}{a:Addr}{xs:List V}{ds:List Dat}(rs:aN H0 xs ds):JWa (Itl K a) H0 (some (a,.lst xs)) ds:=by intro H0' H s0 s1 hq;have hq:=hq _ rfl;have q:SqL K H a xs:=.inl (.inl hq);refine⟨fun i hi=>⟨xs,q,by rw[rs.length];exact hi⟩,fun i d e=>?_⟩;obtain⟨v,hv,rv⟩:=rs.get e;refine⟨⟨xs,v,q,hv⟩,fun x H' y=>?_⟩;obtain⟨e1,y⟩:=y;subst e1;have z:=y xs q;rw[hv]at z;cases z;exact⟨H0',aW.refl s1,rv.mono s0⟩
theorem EC{K:Dk}{σ:L2.St}{H:Hp}{i own:Nat}{bd:Dm.FB}{g:TG}{t:FT}{el:FE}{is:List Nat}{Q:VK}(hb:BD is g bd)(hl:∀i∈is,σ.length<=i)(h:tD (Dm.bQ i own bd t el) σ H Q) :
  tLC (fun σ H R=>AZ K (tD (Dm.eV i)) σ H R\/GL K (tD (Dm.eV i)) σ H R) own g (tDT t) (tD el) σ H Q:=by
 obtain⟨H0,ρ,x,ρ',st,e,k⟩:=h;unfold Dm.bQ at e;split at e
 ·rename_i ds eo;split at e
  case isFalse=>cases e
  rename_i hsz;split at e
  ·cases e
  rename_i ys ρ2 e2;cases e;refine .inl ⟨H0,ρ,.slot i,ρ,st,by unfold Dm.eV;rw[eo],fun v H0' H' t1 r=>?_⟩;obtain⟨a,qa,na,xs,ha,rs⟩:=t1.st.ow i _ eo;obtain⟨r1,_⟩:=r;rw[qa]at r1;cases r1;have nO:¬aE σ (ρ.set i .un) a:=fun z=>by obtain⟨j,d,hj,h1,h2⟩:=iH z;exact hj (t1.st.dis j i d _ a h1 eo h2 qa)
  have Qc:i<ρ.length:=(Vm.mp eo).1;refine⟨a,rfl,⟨xs,.inl (.inl ha)⟩,fun D hD=>Bg hb hl (t1.st.mask i) (fun q e=>by cases e;exact⟨ha,na,nO⟩) (HS rs) hsz e2 (fun v H1 Hc t2 r2 hpa=>?_) D hD⟩;obtain⟨ha2,na2⟩:=hpa _ rfl;rw[VT]at t2 r2;have oo:∀b,aE σ ((ρ2.take ρ.length).set i (.ow (.lst ds))) b->b=a\/aE σ (ρ2.take ρ.length) b:=fun b ⟨j,d,h1,h2⟩=>by
   by_cases q:i=j
   ·subst q;rw[qa]at h2;cases h2;exact .inl rfl
   ·rw[gc q]at h1;exact .inr ⟨j,d,h1,h2⟩
  have om:∀b,aE σ (ρ.set i .un) b->aE σ ρ b:=fun b z=>by obtain⟨j,d,hj,h1,h2⟩:=iH z;exact⟨j,d,h1,h2⟩
  have oa:aE σ ρ a:=⟨i,_,eo,qa⟩
  have nO2:¬aE σ (ρ2.take ρ.length) a:=fun z=>nO (t2.own a z);have HU:(ρ2.take ρ.length).length=ρ.length:=by rw[<- t2.st.len,st.len]
  refine k v H1 Hc (t1.trans ⟨⟨t2.st.same,by rw[VT];exact t2.st.len,fun j d h=>?_,fun j d h=>?_,fun j j' d d' b h1 h2 h3 h4=>?_⟩,t2.stp.wide om,fun b z=>?_,fun j z=>?_⟩) ?_
  ·by_cases q:i=j
   ·subst q;rw[Vz (by rw[HU];exact Qc)]at h;cases h
   ·rw[gc q]at h;exact t2.st.sh j d h
  ·by_cases q:i=j
   ·subst q;rw[Vz (by rw[HU];exact Qc)]at h;cases h;exact⟨a,qa,na2,xs,ha2,rs.mono t2.stp.s0⟩
   ·rw[gc q]at h;exact t2.st.ow j d h
  ·by_cases q:i=j
   ·subst q;by_cases q':i=j'
    ·exact q'
    ·rw[gc q']at h2;rw[qa]at h3;cases h3;exact absurd ⟨j',d',h2,h4⟩ nO2
   ·rw[gc q]at h1;by_cases q':i=j'
    ·subst q';rw[qa]at h4;cases h4;exact absurd ⟨j,d,h1,h3⟩ nO2
    ·rw[gc q']at h2;exact t2.st.dis j j' d d' b h1 h2 h3 h4
  ·rcases oo b z with rfl | z
   ·exact oa
   ·exact om b (t2.own b z)
  ·trivial
  ·obtain⟨D',e',n',no',n0',w'⟩:=r2;refine⟨D',e',t1.stp.gone n',fun z=>?_,n0',w'⟩;rcases oo D' z with rfl | z
   ·rw[n']at ha;cases ha
   ·exact no' z
 ·have h2:=Aa (fi:=Dm.iS (Dm.eV i)) hb hl ⟨H0,ρ,x,ρ',st,e,k⟩;exact RY h2
section
variable{X:Cx}{SN tg:Expr}{Sl:List Expr}{scope:Scope}{pos px:Pos}{bd:Dm.FB}{is:List Nat}{t:FT}{f:FE}{x:Str}
theorem i_M(i:Nat)(h:DE X (.Name x px) (Dm.eV i)):PI X tg (.Name x px) (fun σ H R=>AZ X.K (tD (Dm.eV i)) σ H R\/GL X.K (tD (Dm.eV i)) σ H R):=PI.or (Ef h) (GN h)
theorem zh(i:Nat)(nm own:List Str)(hg:TGc X nm scope own tg is bd)(hi:DE X (.Name x px) (Dm.eV i))(ht:∀cl C s H fp,DTs (bI X nm scope own cl C s H fp) Sl t)(he:∀cl C s H fp,DE (bI X nm scope own cl C s H fp) SN f)
  (hc:X.calm=true:=by rfl) (hk:scope.kind=.function:=by rfl) (hS:rA X.env.scope X.N nm scope=true:=by rfl) (hl:(is.all fun i=>decide (X.N.length<=i))=true:=by rfl) (hs:∀y,foldedSetIterable (.Name x px) X.env y=pure y:=by intro _;rfl) :
  DE X (.ListComp SN [⟨tg,.Name x px,Sl,0⟩] scope pos) (Dm.bQ i own.length bd t f):=by
 obtain⟨g,h1,h2⟩:=hg.ex;intro Dz s σ H Q I h;exact Ex hc (gB.of hS hk) (i_M i hi) h1 ht he hs Dz s σ H Q I (EC h2 (fun i hi=>by rw[I.len];exact xo hl i hi) h)
theorem M7(j i:Nat)(nm own:List Str){y:Str}{py Qm:Pos}(hN:X.N.Nodup)(hg:TGc X nm scope own tg is bd)(hi:DE X (.Name x px) (Dm.eV i))(ht:∀cl C s H fp,DTs (bI X nm scope own cl C s H fp) Sl t)(he:∀cl C s H fp,DE (bI X nm scope own cl C s H fp) SN f)
  (hc:X.calm=true:=by rfl) (hk:scope.kind=.function:=by rfl) (hS:rA X.env.scope X.N nm scope=true:=by rfl) (hl:(is.all fun i=>decide (X.N.length<=i))=true:=by rfl) (hj:X.N[j]?=some y:=by rfl) (hy:Loc X.env.scope y:=by trivial)
  (hsw:swapsWith (.ListComp SN [⟨tg,.Name x px,Sl,0⟩] scope pos) (some (.Name y py)) Qm.line X.env=pure true:=by rfl) (hs:∀y,foldedSetIterable (.Name x px) X.env y=pure y:=by intro _;rfl)
  (hf:X.fn y=true\/X.env.scope.names.lookup y=some .local:=by trivial):DS X (.Assign [.Name y py] (.ListComp SN [⟨tg,.Name x px,Sl,0⟩] scope pos) Qm) (Dm.sA j (Dm.bQ i own.length bd t f)):=by
 obtain⟨g,h1,h2⟩:=hg.ex;intro Dz s σ H D I h;exact i6 hN hj hy hc (gB.of hS hk) (i_M i hi) h1 ht he hsw hs hf Dz s σ H D I (EC h2 (fun i hi=>by rw[I.len];exact xo hl i hi) (Hv h))
end
end Br
namespace Dm
noncomputable def fnM(n m:Nat)(body:FS)(ds:List Dat):Option (RV×Dat):=if ds.length=n then (match ds with
 | d::r=>(match body (Cell.ow d::(r.map Cell.sh++Dp m .un)) with
  | some (.ret z ρ')=>(match ρ'[0]? with
   |some (Cell.ow d')=>some (z,d')
   |_=>none)
  | some (.nx ρ')=>(match ρ'[0]? with
   |some (Cell.ow d')=>some (.val .non,d')
   |_=>none)
  |_=>none)
 |[]=>none) else none
noncomputable def flat:Dat->Bool
 |.tup xs=>xs.all fun x=>!lK x
 |d=>!lK d
noncomputable def C5:Dat->Bool
 |.lst xs=>xs.all fun x=>!lK x
 |_=>false
noncomputable def eFm(f:List Dat->Option (RV×Dat))(j:Nat)(as:List FE):FE:=fun ρ=>match ρ[j]? with
 | some (.ow _)=>(match eAs as ρ with
  |none=>none
  | some (xs,ρ1)=>(match ρ1[j]? with
   | some (.ow d1)=>(match tks ρ1 xs with
    |none=>none
    | some (ds,ρ2)=>(match ρ2[j]? with
     | some (.ow d)=>(match f (d::ds) with
      |none=>none
      |some (v,d')=>if flat v.dat&&C5 d' then some (v.cu,ρ1.set j (.ow d')) else some (v.cu,ρ2.set j (.ow d')))
     |_=>none))
   |_=>none))
 |_=>none
end Dm
namespace Br
open PySem PySem.Spec PyProof.Rows L2
section
variable{ρ:Dm.Env}{σ:L2.St}{a:Addr}
def spM(f:List Dat->Option (RV×Dat)):Sp:=fun vs H Q _=>∃H0 a us d ds z d',vs=V.ref a::us/\aJ H0 H/\H0 a=none/\Own H0 H a d/\aN H0 us ds/\f (d::ds)=some (z,d') /\
 ∀v H0' H',Stp (fun b=>b=a) H0 H H0' H'->aJ H0' H'->H0' a=none->Own H0' H' a d'->z7 H H0' H' v z->Q v H'
theorem we{n m:Nat}{body:FS}{vs:List V}{H:Hp}{Q:VK}{E:XK}(h:spM (Dm.fnM n m body) vs H Q E):vs.length=n:=by
 obtain⟨H0,a,us,d,ds,z,d',e,_,_,_,rs,ef,_⟩:=h;unfold Dm.fnM at ef;split at ef
 ·rename_i hl;rw[e,VX,rs.length]
  simpa using hl
 ·cases ef
theorem aM.tM{H0 H:Hp}{j:Nat}{d:Dat}(st:aM H0 H σ ρ)(q:σ[j]?=some (some (V.ref a)))(no:¬aE σ ρ a)(n0:H0 a=none)(w:Own H0 H a d):aM H0 H σ (ρ.set j (.ow d)):=by
 have:=st.C2 (i:=j) no n0 w;have e:σ.set j (some (V.ref a))=σ:=by
  apply W9;intro i;by_cases h:j=i
  ·subst h;have hl:j<σ.length:=(Vm.mp q).1;rw[Vz hl,q]
  ·rw[gc h]
 rw[e]at this;exact this
theorem aM.off{H0 H H0' H':Hp}(st:aM H0 H σ ρ)(s0:aJ H0 H0')(ss:aJ H0' H')(no:¬aE σ ρ a)(s1:∀b o,H b=some o->b≠a->H' b=some o)(s2:∀(i:Nat) (d:Dat) (b:Addr),ρ[i]?=some (Dm.Cell.ow d)->σ[i]?=some (some (V.ref b))->H0' b=none):aM H0' H' σ ρ where
 same:=ss
 len:=st.len
 sh:=fun i d e=>by obtain⟨v,q,r⟩:=st.sh i d e;exact⟨v,q,r.mono s0⟩
 ow:=fun i d e=>by obtain⟨b,q,n,w⟩:=st.ow i d e;obtain⟨o,z⟩:=w.some;have nb:b≠a:=fun y=>no ⟨i,d,e,y▸q⟩;exact⟨b,q,s2 i d b e q,w.mono s0 ((s1 b o z nb).trans z.symm)⟩
 dis:=st.dis
theorem kJ{H0 H1:Hp}:∀{xs:List V} {ds:List Dat},aN H0 xs ds->(ds.all fun x=>!Dm.lK x)=true->aN H1 xs ds
 |_,_,.nil,_=>.nil
 |_,_,.cons r rs,h=>by rw[YM,Vv]at h;exact .cons (Rep.plain r (by simpa using h.1)) (kJ rs h.2)
end
section
variable{σ:L2.St}{H:Hp}{Q:VK}
theorem K7{f:List Dat->Option (RV×Dat)}{j:Nat}{fs:List FE}{E:XK}(h:tD (Dm.eFm f j fs) σ H Q):A3 (spM f) [] E (tDA (Dm.eV j::fs)) σ H Q:=by
 obtain⟨H0,ρ,x,ρ',st,e,k⟩:=h;unfold Dm.eFm at e;split at e
 case h_2=>cases e
 rename_i d0 h0;split at e
 ·cases e
 rename_i xs ρ1 e1;split at e
 case h_2=>cases e
 rename_i d1 h1;split at e
 ·cases e
 rename_i ds ρ2 e2;split at e
 case h_2=>cases e
 rename_i d h2;split at e
 ·cases e
 rename_i z d' fz;have ea:Dm.eAs (Dm.eV j::fs) ρ=some (.slot j::xs,ρ1):=by unfold Dm.eAs;rw[show Dm.eV j ρ=some (.slot j,ρ) from by unfold Dm.eV;rw[h0]];dsimp only;rw[e1]
 refine⟨H0,ρ,.slot j::xs,ρ1,st,ea,fun vs H1 Hb t1 r1=>?_⟩;dsimp only;rw[VQ];cases r1 with
 |cons r0 rr=>
  obtain⟨H2,t2,b2,r2⟩:=takes t1 (aJ.refl _) rr e2;obtain⟨a,qa,na,wa⟩:=t2.st.ow j d h2;obtain⟨q0,_⟩:=r0;rw[qa]at q0;cases q0;obtain⟨a1,qa1,na1,wa1⟩:=t1.st.ow j d1 h1;rw[qa]at qa1;cases qa1;obtain⟨oa,ha⟩:=wa.some;have hl2:j<ρ2.length:=(Vm.mp h2).1;have hl1:j<ρ1.length:=(Vm.mp h1).1;have oa0:aE σ ρ a:=t1.own a ⟨j,d1,h1,qa⟩;refine⟨H2,a,_,d,ds,z,d',rfl,t2.st.same,na,wa,r2,fz,fun v H3 Hd s3 ss n3 w3 r3=>?_⟩;have no2:¬aE σ (ρ2.set j .un) a:=fun y=>by obtain⟨i,d4,hi,y1,y2⟩:=iH y;exact hi (t2.st.dis i j d4 d a y1 h2 y2 qa)
  have no1:¬aE σ (ρ1.set j .un) a:=fun y=>by obtain⟨i,d4,hi,y1,y2⟩:=iH y;exact hi (t1.st.dis i j d4 d1 a y1 h1 y2 qa)
  split at e
  ·rename_i fl;cases e;rw[Vv]at fl;obtain⟨f1,f2⟩:=fl;have wp:∀H',Own H' Hd a d':=fun H'=>by
    cases d' with
    |lst ys=>obtain⟨us,y1,y2⟩:=w3;exact⟨us,y1,kJ y2 f2⟩
    |_=>cases f2
   have Qi:∀H1':Hp,aJ H1 H1'->aJ H1' Hd->(∀b o,H1' b=some o->H1 b=some o\/((∃us,o=.tup us)/\H3 b=some o))->l5 H H1' Hd σ (ρ1.set j (.ow d')) v z.cu->Q v Hd:=fun H1' m1 m2 m3 rv=>by
    have hd3:∀b,H1' b≠none->b≠a:=fun b hb y=>by
     subst y;cases y2:H1' b with
     |none=>exact hb y2
     |some o=>
      rcases m3 b o y2 with y3 | ⟨_,y3⟩
      ·rw[na1]at y3;cases y3
      ·rw[n3]at y3;cases y3
    have n1':H1' a=none:=by
     cases y:H1' a with
     |none=>rfl
     |some o=>exact absurd rfl (hd3 a (by rw[y];exact fun q=>nomatch q))
    have sm:aM H1' Hd σ (ρ1.set j .un):=by
     refine(t1.st.mask j).off m1 m2 no1 (fun b o y nb=>s3.s1 b o y nb) fun i d4 b y1 y2=>?_;obtain⟨b',q',nb',w'⟩:=(t1.st.mask j).ow i d4 y1;rw[y2]at q';cases q';cases y:H1' b with
     |none=>rfl
     |some o=>
      rcases m3 b o y with y3 | ⟨⟨us,y4⟩,y3⟩
      ·rw[nb']at y3;cases y3
      ·subst y4;have nb:b≠a:=hd3 b (by rw[y];exact fun q=>nomatch q);cases d4 with
       |lst _=>obtain⟨ws,z1,_⟩:=w';have z2:=s3.s1 b _ z1 nb;rw[ss _ _ y3]at z2;cases z2
       |dct _ _=>obtain⟨ws,z1,_⟩:=w';have z2:=s3.s1 b _ z1 nb;rw[ss _ _ y3]at z2;cases z2
       |dcp _ _=>obtain⟨ws,z1,_⟩:=w';have z2:=s3.s1 b _ z1 nb;rw[ss _ _ y3]at z2;cases z2
       |_=>exact Vx w'
    have sf:aM H1' Hd σ (ρ1.set j (.ow d')):=by have:=sm.tM qa no1 n1' (wp H1');rw[YO]at this;exact this
    refine k v H1' Hd ⟨sf,⟨t1.stp.s0.trans m1,fun b o y nb=>?_,fun b o y=>?_,fun b o y=>?_⟩,fun b y=>?_,fun i y=>?_⟩ rv
    ·have y1:=t1.stp.s1 b o y nb;exact s3.s1 b o y1 fun q=>nb (by rw[q];exact oa0)
    ·rcases m3 b o y with y3 | ⟨_,y3⟩
     ·exact t1.stp.s2 b o y3
     ·rcases s3.s2 b o y3 with y4 | y4 | y4
      ·exact .inl (t1.stp.gone y4)
      ·exact t2.stp.s2 b o y4
      ·subst y4;rw[n3]at y3;cases y3
    ·obtain⟨o',y1⟩:=t1.stp.s3 b o y;exact s3.s3 b o' y1
    ·obtain⟨i,d4,y1,y2⟩:=y;by_cases hi:j=i
     ·subst hi;rw[qa]at y2;cases y2;exact oa0
     ·rw[gc hi]at y1;exact t1.own b ⟨i,d4,y1,y2⟩
    ·trivial
   have m0:aJ H1 Hd:=fun b o y=>s3.s1 b o (t1.st.same _ _ y) fun q=>by rw[q,na1]at y;cases y
   cases z with
   |new d4=>
    obtain⟨_,_,_,_,w⟩:=r3;cases d4 with
    |lst _=>cases f1
    |dct _ _=>cases f1
    |dcp _ _=>cases f1
    |_=>exact Vx w
   |val d4=>
    have r3':Rep H3 v d4:=r3;cases d4 with
    |tup es=>
     cases r3' with
     |tup q rs=>
      rename_i a2 us;have rp:aN H1 us es:=kJ rs f1;refine Qi (upd H1 a2 (.tup us)) (fun b o y=>?_) (fun b o y=>?_) (fun b o y=>?_) (.tup aL (kJ rs f1))
      ·by_cases hb:b=a2
       ·subst hb;have:=s3.s0 _ _ (b2 _ _ y);rw[q]at this;rw[aL,this]
       ·rw[aH hb];exact y
      ·by_cases hb:b=a2
       ·subst hb;rw[aL]at y;cases y;exact ss _ _ q
       ·rw[aH hb]at y;exact m0 _ _ y
      ·by_cases hb:b=a2
       ·subst hb;rw[aL]at y;cases y;exact .inr ⟨⟨us,rfl⟩,q⟩
       ·rw[aH hb]at y;exact .inl y
    |lst _=>cases f1
    |dct _ _=>cases f1
    |dcp _ _=>cases f1
    |exc _=>cases f1
    |cY _ _=>cases f1
    |fn _=>exact Qi H1 (aJ.refl _) m0 (fun b o y=>.inl y) (Rep.plain r3' rfl)
    |non=>exact Qi H1 (aJ.refl _) m0 (fun b o y=>.inl y) (Rep.plain r3' rfl)
    |bl _=>exact Qi H1 (aJ.refl _) m0 (fun b o y=>.inl y) (Rep.plain r3' rfl)
    |int _=>exact Qi H1 (aJ.refl _) m0 (fun b o y=>.inl y) (Rep.plain r3' rfl)
    |str _=>exact Qi H1 (aJ.refl _) m0 (fun b o y=>.inl y) (Rep.plain r3' rfl)
  ·cases e;have sm:aM H3 Hd σ (ρ2.set j .un):=by
    refine(t2.st.mask j).off s3.s0 ss no2 (fun b o y nb=>s3.s1 b o y nb) fun i d4 b y1 y2=>?_;obtain⟨b',q',nb',w'⟩:=(t2.st.mask j).ow i d4 y1;rw[y2]at q';cases q';obtain⟨ob,hob⟩:=w'.some;cases y:H3 b with
    |none=>rfl
    |some o=>
     rcases s3.s2 b o y with y3 | y3 | y3
     ·rw[hob]at y3;cases y3
     ·rw[nb']at y3;cases y3
     ·exact absurd ⟨i,d4,y1,y3▸y2⟩ no2
   have sf:aM H3 Hd σ (ρ2.set j (.ow d')):=by have:=sm.tM qa no2 n3 w3;rw[YO]at this;exact this
   have of:∀b,aE σ (ρ2.set j (.ow d')) b->b=a\/aE σ ρ2 b:=fun b ⟨i,d4,y1,y2⟩=>by
    by_cases hi:j=i
    ·subst hi;rw[qa]at y2;cases y2;exact .inl rfl
    ·rw[gc hi]at y1;exact .inr ⟨i,d4,y1,y2⟩
   refine k v H3 Hd ⟨sf,t2.stp.trans s3 (fun b y=>.inl (y▸oa0)),fun b y=>?_,fun i y=>?_⟩ ?_
   ·rcases of b y with y | y
    ·exact y▸oa0
    ·exact t2.own b y
   ·trivial
   ·cases z with
    |val d4=>exact r3
    |new d4=>
     obtain⟨b,y0,y1,y2,y3⟩:=r3;refine⟨b,y0,t2.stp.gone y1,fun y=>?_,y2,y3⟩;rcases of b y with y | y
     ·subst y;rw[ha]at y1;cases y1
     ·exact t2.st.cL y1 y
end
theorem cW{X:Cx}{es:List Expr}{p pos px:Pos}{k:Nat}{F:Addr}{fd:FuncData}{ps:List Str}{g:List Dat->Option (RV×Dat)}{x y:Str}{j:Nat}{fs:List FE}(G:ck X.prog X.w X.K X.mg X.base CX0 k F fd ps (spM g))(hr:bP k X.A)(hg:Gl X x)(hm:X.mg x=some (.ref F))(hk:Wc X.K (.ref F)=true)(hb:Binds X.K fd ps [])
  (ha:DA X (.Name y px::es) (Dm.eV j::fs)) (SS:(x == ("__debug__" : Str))=false:=by decide) (he:starEach (.Name y px::es) X.env=(false,eval (.Name y px) X.env)::starEach es X.env:=by rfl) (Nm:(backTo pos (starEach es X.env)).any (·.1)=false:=by rfl) :
  DE X (.Call (.Name x p) (.Name y px::es) [] pos) (Dm.eFm g j fs):=PE.weak (v8 G hr hg hm hk hb .nil (En (X:=X)) ha SS he Nm) fun _ _ _=>K7
theorem HV{N:List Str}{n m:Nat}{body:FS}{vs:List V}{H:Hp}{Q:VK}{E:XK}(hm:N.length=n+m)(h:spM (Dm.fnM n m body) vs H Q E) :
  tDS body { nx:=fun _ H'=>Q .non H',rt:=Q } (start N vs) H:=by
 have hvn:=we h;obtain⟨H0,a,us,d,ds,z,d',e,s,na,wa,rs,ef,k⟩:=h;subst e;have hl:=rs.length;rw[VX]at hvn;have e0:(start N (V.ref a::us))[0]?=some (some (V.ref a)):=rfl;have get:∀{i:Nat} {c:Dm.Cell},(Dm.Cell.ow d::(ds.map Dm.Cell.sh++Dp m .un))[i]?=some c->(i=0/\c=.ow d)\/(∃i' d4,i=i'+1/\ds[i']?=some d4/\c=.sh d4)\/c=.un:=fun {i c} y=>by
  cases i with
  |zero=>cases y;exact .inl ⟨rfl,rfl⟩
  |succ i=>
   rw[WZ]at y;by_cases hi:i<ds.length
   ·rw[Vi (by simpa using hi),VH,V2 hi]at y;cases y;exact .inr (.inl ⟨i,ds[i],rfl,V2 hi,rfl⟩)
   ·rw[Vs (by simpa using hi),VR]at y;split at y
    ·cases y;exact .inr (.inr rfl)
    ·cases y
 have ow0:∀{i:Nat} {d4:Dat},(Dm.Cell.ow d::(ds.map Dm.Cell.sh++Dp m .un))[i]?=some (.ow d4)->i=0/\d4=d:=fun {i d4} y=>by
  rcases get y with⟨y1,y2⟩ | ⟨_,_,_,_,y2⟩ | y2
  ·cases y2;exact⟨y1,rfl⟩
  ·cases y2
  ·cases y2
 have oa:∀b,aE (start N (V.ref a::us)) (Dm.Cell.ow d::(ds.map Dm.Cell.sh++Dp m .un)) b->b=a:=fun b ⟨i,d4,y1,y2⟩=>by obtain⟨y3,_⟩:=ow0 y1;subst y3;rw[e0]at y2;cases y2;rfl
 have st:aM H0 H (start N (V.ref a::us)) (Dm.Cell.ow d::(ds.map Dm.Cell.sh++Dp m .un)):=by
  refine⟨s,?_,fun i d4 y=>?_,fun i d4 y=>?_,fun i i' d4 d5 b y1 y2 _ _=>(ow0 y1).1.trans (ow0 y2).1.symm⟩
  ·unfold L2.start;simp only[Vn,Pa,W3,VX];omega
  ·rcases get y with⟨_,y2⟩ | ⟨i',d5,y1,y2,y3⟩ | y2
   ·cases y2
   ·cases y3;subst y1;obtain⟨v,hv,r⟩:=rs.get y2;refine⟨v,?_,r⟩;have hi:i'<us.length:=(Vm.mp hv).1;unfold L2.start;rw[Vi (by simp;omega),VH,WZ,hv];rfl
   ·cases y2
  ·obtain⟨y1,y2⟩:=ow0 y;subst y1 y2;exact⟨a,e0,na,wa⟩
 have Qi:∀{σ':L2.St} {ρ':Dm.Env} {H0' H':Hp},SSt (start N (V.ref a::us)) (Dm.Cell.ow d::(ds.map Dm.Cell.sh++Dp m .un)) H0 H σ' ρ' H0' H'->ρ'[0]?=some (.ow d')->Stp (fun b=>b=a) H0 H H0' H'/\H0' a=none/\Own H0' H' a d'/\aE σ' ρ' a:=fun {σ' ρ' H0' H'} t y=>by obtain⟨a',q',n',w'⟩:=t.st.ow 0 d' y;have fx:=t.fx;rw[e0,q']at fx;cases fx;exact⟨t.stp.wide fun b z=>oa b z,n',w',0,d',y,q'⟩
 unfold Dm.fnM at ef;split at ef
 case isFalse=>cases ef
 dsimp only at ef;split at ef
 ·rename_i z' ρ' e1;split at ef
  case h_2=>cases ef
  rename_i d4 y;cases ef;refine⟨H0,_,_,st,e1,fun σ' v H0' H' t r no=>?_⟩;obtain⟨f1,f2,f3,f4⟩:=Qi t y;refine k v H0' H' f1 t.st.same f2 f3 ?_;cases z with
  |val d5=>exact r
  |new d5=>
   obtain⟨b,y0,y1,y2,y3⟩:=r;refine⟨b,y0,?_,y2,y3⟩;rcases y1 with y1 | y1
   ·exact y1
   ·exact absurd f4 (oa b y1▸no d5 b rfl y0)
 ·rename_i ρ' e1;split at ef
  case h_2=>cases ef
  rename_i d4 y;cases ef;refine⟨H0,_,_,st,e1,fun σ' H0' H' t=>?_⟩;obtain⟨f1,f2,f3,f4⟩:=Qi t y;exact k _ H0' H' f1 t.st.same f2 f3 .non
 ·cases ef
end Br
namespace Dm
noncomputable def iF:List Int->List Dat->Int->Option Dat
 |k::ks,v::vs,i=>if k=i then some v else iF ks vs i
 |_,_,_=>none
noncomputable def ED:List Int->List Dat->Int->Dat->List Dat
 |k::ks,v::vs,i,d=>(if k=i then d else v)::ED ks vs i d
 |_,_,_,_=>[]
noncomputable def uT(ks:List Int)(i:Int):List Int:=if (ks.any fun k=>decide (k=i))=true then ks else ks++[i]
noncomputable def uU(ks:List Int)(vs:List Dat)(i:Int)(d:Dat):List Dat:=if (ks.any fun k=>decide (k=i))=true then ED ks vs i d else vs++[d]
noncomputable def gDx:Dat->Dat->Option RV
 |.dct ks vs,.int i=>(iF ks vs i).map .val
 |_,_=>none
noncomputable def HW:Dat->Dat->Option RV
 |.int i,.dct ks vs=>vB (iF ks vs i).isSome
 |_,_=>none
noncomputable def zj:Dat->Dat->Option RV
 |.int i,.dct ks vs=>vB (!(iF ks vs i).isSome)
 |_,_=>none
noncomputable def eD1(a b:FE):FE:=fun ρ=>match a ρ with
 | some (.val (.int i),ρ1)=>(match b ρ1 with
  |none=>none
  |some (x,ρ2)=>match tk ρ2 x with
   |none=>none
   |some (d,ρ3)=>some (.new (.dct [i] [d]),ρ3))
 |_=>none
noncomputable def zk(i:Nat)(j e:FE):FS:=fun ρ=>match e ρ with
 |none=>none
 |some (x,ρ1)=>match tk ρ1 x with
  |none=>none
  |some (d,ρ2)=>match ρ2[i]? with
   | some (.ow _)=>(match j ρ2 with
    | some (.val (.int k),ρ3)=>(match ρ3[i]? with
     |some (.ow (.dct ks vs))=>if ks.length<SZ then some (.nx (ρ3.set i (.ow (.dct (uT ks k) (uU ks vs k d))))) else none
     |_=>none)
    |_=>none)
   |_=>none
end Dm
namespace Br
open PySem PySem.Spec PyProof.Rows L2
section
variable{ds:List Dat}{ks:List Int}{H0:Hp}{d:Dat}{v:V}
theorem xq{H0 H:Hp}(s:aJ H0 H)(r:o_ H0 H v (.dct ks ds)):∃a kvs,v=.ref a/\H a=some (.dK kvs)/\kvs.map (·.1)=ks.map VW/\aN H0 (kvs.map (·.2)) ds:=by
 rcases r with r | ⟨a,e,kvs,q,ek,rs⟩
 ·cases r with
  |dct q ek rs=>exact⟨_,_,rfl,s _ _ q,ek,rs⟩
 ·exact⟨a,kvs,e,q,ek,rs⟩
theorem C6{a b:Int}(h:¬a=b):¬(VW a:Key)=VW b:=fun q=>h (Sum.inl.inj q)
theorem wg(i:Int):∀{kvs:List (Key×V)} {ks:List Int} {ds:List Dat},kvs.map (·.1)=ks.map VW->aN H0 (kvs.map (·.2)) ds ->
  (∃d v,Dm.iF ks ds i=some d/\lR kvs (VW i)=some v/\Rep H0 v d)\/(Dm.iF ks ds i=none/\lR kvs (VW i)=none)
 |[],[],_,_,r=>by cases r;exact .inr ⟨rfl,rfl⟩
 |[],_::_,_,e,_=>by cases e
 |_::_,[],_,e,_=>by cases e
 |(k0,v0)::kvs,k::ks,_,e,r=>by
  rw[gV]at r;cases r with
  |cons r0 rr=>
   rw[gV,gV]at e;injection e with e1 e2
   have e1:k0=VW k:=e1;subst e1;unfold Dm.iF;by_cases h:k=i
   ·subst h;rw[if_pos rfl];exact .inl ⟨_,v0,rfl,lX rfl,r0⟩
   ·rw[if_neg h,lY (C6 h)];exact wg i e2 rr
theorem HX(i:Int):∀{kvs:List (Key×V)} {ks:List Int},kvs.map (·.1)=ks.map VW->(kvs.any fun kv=>decide (kv.1=VW i))=(ks.any fun k=>decide (k=i))
 |[],[],_=>rfl
 |[],_::_,e=>by cases e
 |_::_,[],e=>by cases e
 |(k0,v0)::kvs,k::ks,e=>by
  rw[gV,gV]at e;injection e with e1 e2
  have e1:k0=VW k:=e1;subst e1;rw[WD,WD,HX i e2]
  congr 1
  by_cases h:k=i
  ·subst h;simp
  ·have:=C6 h;simp[h,this]
theorem EE(i:Int)(rv:Rep H0 v d):∀{kvs:List (Key×V)} {ks:List Int} {ds:List Dat},kvs.map (·.1)=ks.map VW->aN H0 (kvs.map (·.2)) ds ->
  ((kvs.map fun kv=>if kv.1=VW i then (kv.1,v) else kv).map (·.1)=ks.map VW)/\aN H0 ((kvs.map fun kv=>if kv.1=VW i then (kv.1,v) else kv).map (·.2)) (Dm.ED ks ds i d)
 |[],[],_,_,r=>by cases r;exact⟨rfl,.nil⟩
 |[],_::_,_,e,_=>by cases e
 |_::_,[],_,e,_=>by cases e
 |(k0,v0)::kvs,k::ks,_,e,r=>by
  rw[gV]at r;cases r with
  |cons r0 rr=>
   rw[gV,gV]at e;injection e with e1 e2
   have e1:k0=VW k:=e1;subst e1;obtain⟨i1,i2⟩:=EE i rv e2 rr;unfold Dm.ED;by_cases h:k=i
   ·subst h;rw[if_pos rfl,gV,gV,gV,i1];simp only[if_true];exact⟨trivial,.cons rv i2⟩
   ·rw[if_neg h,gV,gV,gV,i1];have:=C6 h;simp only[this,if_false];exact⟨trivial,.cons r0 i2⟩
theorem O4(i:Int)(rv:Rep H0 v d){kvs:List (Key×V)}(e:kvs.map (·.1)=ks.map VW)(r:aN H0 (kvs.map (·.2)) ds) :
  (putK kvs (VW i) v).map (·.1)=(Dm.uT ks i).map VW/\aN H0 ((putK kvs (VW i) v).map (·.2)) (Dm.uU ks ds i d):=by
 have ha:=HX i e;unfold putK Dm.uT Dm.uU;rw[ha];cases hb:(ks.any fun k=>decide (k=i)) with
 |true=>simp only[if_true];exact EE i rv e r
 |false=>simp only[V3,if_false];rw[Vy,Vy,Vy,e];exact⟨rfl,r.append (.cons rv .nil)⟩
theorem R3:OpD (fun x y H Q=>∃a v,x=.ref a/\jh H a y (some v)/\Q v H) Dm.gDx:=by
 intro H0 H x y dx dy z Q s rx ry e k;unfold Dm.gDx at e;split at e
 ·rename_i ks vs i;cases aQ ry;obtain⟨a,kvs,rfl,qa,ek,rs⟩:=xq s rx;rcases wg i ek rs with⟨d,v,l1,l2,r⟩ | ⟨l1,_⟩
  ·rw[l1]at e;cases e;refine⟨a,v,rfl,?_,k _ H0 H (aW.refl s) r⟩;have:=jh.k (k:=VW i) qa;rw[l2]at this;exact this
  ·rw[l1]at e;cases e
 ·cases e
theorem O5:OpD (fun y x H Q=>∃a o,x=.ref a/\jh H a y o/\Q (.bl o.isSome) H) Dm.HW:=by
 intro H0 H x y dx dy z Q s rx ry e k;unfold Dm.HW at e;split at e
 ·rename_i i ks vs;cases e;cases aQ rx;obtain⟨a,kvs,rfl,qa,ek,rs⟩:=xq s ry;refine⟨a,_,rfl,jh.k (k:=VW i) qa,k _ H0 H (aW.refl s) ?_⟩;rcases wg i ek rs with⟨d,v,l1,l2,r⟩ | ⟨l1,l2⟩
  ·rw[l1,l2];exact .bl _
  ·rw[l1,l2];exact .bl _
 ·cases e
theorem K8:OpD (fun y x H Q=>∃a o,x=.ref a/\jh H a y o/\Q (.bl (!o.isSome)) H) Dm.zj:=by
 intro H0 H x y dx dy z Q s rx ry e k;unfold Dm.zj at e;split at e
 ·rename_i i ks vs;cases e;cases aQ rx;obtain⟨a,kvs,rfl,qa,ek,rs⟩:=xq s ry;refine⟨a,_,rfl,jh.k (k:=VW i) qa,k _ H0 H (aW.refl s) ?_⟩;rcases wg i ek rs with⟨d,v,l1,l2,r⟩ | ⟨l1,l2⟩
  ·rw[l1,l2];exact .bl _
  ·rw[l1,l2];exact .bl _
 ·cases e
end
section
variable{σ:L2.St}{H:Hp}{Q:VK}{D:Ends}
theorem O6{i:Nat}{j f:FE}(h:tDS (Dm.zk i j f) D σ H):G6 (yE i) (tD j) (tD f) D σ H:=by
 obtain⟨H0,ρ,o,st,e,k⟩:=h;unfold Dm.zk at e;split at e
 ·cases e
 rename_i x ρ1 e1;split at e
 ·cases e
 rename_i d ρ2 e2;split at e
 case h_2=>cases e
 rename_i d0 h2;split at e
 ·rename_i m ρ3 e3;split at e
  ·rename_i ks vs h3;split at e
   case isFalse=>cases e
   rename_i hz;cases e;refine⟨H0,ρ,_,ρ1,st,e1,fun v H0' H' t r=>?_⟩;obtain⟨H1,t1,b1,r1,_,_⟩:=take1 t (aJ.refl _) r e2;obtain⟨a0,q0,_,_⟩:=t1.st.ow i _ h2;refine⟨_,q0,H1,ρ2,_,ρ3,t1.st,e3,fun u H2 Hc t2 r2=>?_⟩;obtain⟨a,q,n,w⟩:=t2.st.ow i _ h3;rw[q0]at q;cases q;obtain⟨kvs,y,ek,rs⟩:=w;have hu:=Rep.isInt r2;subst hu;obtain⟨p1,p2⟩:=O4 m (r1.mono t2.stp.s0) ek rs;have IY:kvs.length=ks.length:=by
    have:=congrArg List.length ek
    simpa using this
   refine⟨a0,_,rfl,A9.k (k:=VW m) y (by rw[IY];exact Vr hz (by decide)),?_⟩;have ow:aE σ ρ3 a0:=⟨i,_,h3,q0⟩
   have tt:=t1.trans t2;exact k σ H2 _ ⟨t2.st.write h3 q0 ⟨_,aL,p1,p2⟩,tt.stp.trans (Stp.write ow) fun b z=>.inl (tt.own b z),fun b z=>.inl (tt.own b (cZ h3 z)),rfl⟩
  ·cases e
 ·cases e
theorem Uu{fa fb:FE}(h:tD (Dm.eD1 fa fb) σ H Q):MV [(tD fa,tD fb)] σ H Q:=by
 obtain⟨H0,ρ,x,ρ',st,e,k⟩:=h;unfold Dm.eD1 at e;split at e
 ·rename_i i ρ1 e1;split at e
  ·cases e
  rename_i y ρ2 e2;split at e
  ·cases e
  rename_i d ρ3 e3;cases e;intro p hp;have n0:H0 p=none:=st.same.free hp;have no:¬aE σ ρ p:=st.cL hp;refine⟨H0,ρ,_,ρ1,st.aside n0 no,e1,fun u H1 Hb t1 r1=>⟨H1,ρ1,y,ρ2,t1.st,e2,fun v H2 Hc t2 r2=>?_⟩⟩;have tt:=t1.trans t2;obtain⟨H3,t3,b3,r3,_,_⟩:=take1 tt (aJ.refl _) (r2.early fun a n=>t1.stp.gone n) e3;obtain⟨hp3,n3,no3⟩:=t3.je (o:=HO.dK []) aL n0 no;have hu:=Rep.isInt r1;subst hu;refine⟨hp3,[(VW i,v)],rfl,(by simp),?_⟩;have em:sZ [] [((VW i:Key),v)]=[(VW i,v)]:=rfl;rw[em];refine k _ H3 _ ⟨t3.st.aside n3 no3,⟨t3.stp.s0,fun a o y nb=>?_,fun a o y=>?_,fun a o y=>?_⟩,t3.own,t3.dfn⟩ ⟨p,rfl,hp,no3,n3,_,aL,rfl,.cons r3 .nil⟩
  ·have ne:a≠p:=fun q=>by rw[q,hp]at y;cases y
   rw[aH ne];exact t3.stp.s1 a o (by rw[aH ne];exact y) nb
  ·rcases t3.stp.s2 a o y with y1 | y1 | y1
   ·by_cases ne:a=p
    ·subst ne;rw[n3]at y;cases y
    ·rw[aH ne]at y1;exact .inl y1
   ·exact .inr (.inl y1)
   ·exact .inr (.inr y1)
  ·have ne:a≠p:=fun q=>by rw[q,hp]at y;cases y
   rw[aH ne];exact t3.stp.s3 a o (by rw[aH ne];exact y)
 ·cases e
end
theorem u1{k:Nat}{A:Around}(hr:bP k A):A.units+1<cLine:=Nat.lt_of_le_of_lt (Nat.add_le_add_left (by decide) _) hr.units
section
variable{X:Cx}{a b e:Expr}{fa fb f:FE}{pos:Pos}{k:Nat}
theorem Uv(ha:DE X a fa)(hb:DE X b fb):DE X (.Dict [some a] [b] pos) (Dm.eD1 fa fb):=PE.weak (KA (Hh ha hb Kz) rfl rfl (by simp) (by simp)) fun _ _ _=>Uu
theorem O7(hr:bP k X.A)(ha:DE X a fa)(hb:DE X b fb)(hs:Kv b:=by intro _ _;rfl):DE X (.Subscript a b pos) (Dm.e2 Dm.gDx fa fb):=PE.weak (Eo (u1 hr) ha hb hs) fun _ _ _=>z_ R3
theorem R4(hr:bP k X.A)(ha:DE X a fa)(hb:DE X b fb)(hm:behindInMarks .In b=false:=by rfl):DT X (.Compare a [.In] [b] pos) (Dm.tV (Dm.e2 Dm.HW fa fb)):=PT.weak (CK (G7 (u1 hr) ha hb) hm) fun σ H Q h=>z_ O5 (wY h)
theorem HY(hr:bP k X.A)(ha:DE X a fa)(hb:DE X b fb)(hm:behindInMarks .NotIn b=false:=by rfl):DT X (.Compare a [.NotIn] [b] pos) (Dm.tV (Dm.e2 Dm.zj fa fb)):=PT.weak (CK (FF (u1 hr) ha hb) hm) fun σ H Q h=>z_ K8 (wY h)
theorem O8(i:Nat){x:Str}{px sp:Pos}(hr:bP k X.A)(hb:DE X b fb)(he:DE X e f)(hi:X.N[i]?=some x:=by rfl)(hv:Vis X.env.scope x:=by trivial)(hd:(x == ("__debug__" : Str))=false:=by decide)
  (SK:(x == ("__classdict__" : Str))=false:=by decide) (hs:swapsWith e (some (.Subscript (.Name x px) b sp)) pos.line X.env=pure false:=by rfl):DS X (.Assign [.Subscript (.Name x px) b sp] e pos) (Dm.zk i fb f):=
 PS.weak (Ep (u1 hr) (kG hi hv hd SK) hb he hs) fun _ _ _=>O6
end
end Br
namespace Dm
noncomputable def C7(a:FE)(lo hi:Option FE):FE:=fun ρ=>match a ρ with
 |none=>none
 |some (x,ρ1)=>match part lo ρ1 with
  |none=>none
  |some (l,ρ2)=>match part hi ρ2 with
   |none=>none
   |some (h,ρ3)=>match pk ρ3 x with
    |some (.tup xs)=>if sIx xs.length 0 l=0/\sIx xs.length xs.length h=xs.length then none else some (.val (.tup (cut xs l h)),ρ3)
    |_=>none
end Dm
namespace Br
open PySem PySem.Spec PyProof.Rows L2
section
variable{σ:L2.St}{H:Hp}{Q:VK}
theorem Uw{K:Dk}{f:FE}{Q:Bool->Hp->Prop}(h:tDT (Dm.tTr f) σ H Q):tD f σ H fun x H'=>∃k,Og K x H' k/\Q k H':=by
 obtain⟨H0,ρ,b,ρ',st,e,k⟩:=h;unfold Dm.tTr at e;split at e
 ·cases e
 rename_i x ρ1 e1;split at e
 ·cases e
 rename_i d p1;split at e
 ·cases e
 rename_i c tc;cases e;refine⟨H0,ρ,x,_,st,e1,fun v H1 Hb t1 r1=>⟨b,?_,k H1 Hb t1⟩⟩;have rl:=r1.look t1.st p1;cases d with
 |non=>
  cases tc;rcases rl with r | ⟨a,_,w⟩
  ·cases r;rfl
  ·exact Vx w
 |bl c=>cases tc;cases KJ rl;rfl
 |int i=>cases tc;cases aQ rl;rfl
 |tup es=>cases tc;obtain⟨a,xs,rfl,qa,rs⟩:=l8 t1.st.same rl;refine .inr (.inl ⟨xs,SqT.of qa,?_⟩);cases rs<;>rfl
 |lst es=>cases tc;obtain⟨a,xs,rfl,qa,rs⟩:=cM t1.st.same rl;refine .inl ⟨xs,.inl qa,?_⟩;cases rs<;>rfl
 |str _=>cases tc
 |dct _ _=>cases tc
 |dcp _ _=>cases tc
 |exc _=>cases tc
 |cY _ _=>cases tc
 |fn _=>cases tc
end
section
variable{X:Cx}{a:Expr}{fa:FE}{p pos:Pos}
theorem Ux(ha:DE X a fa)(he:∀whole,isTrue a X.env whole=(do let v <- whole;standAt a.pos;holding [v] (truthy v)):=by intro _;rfl):DT X a (Dm.tTr fa):=PT.weak (GS ha he) fun _ _ _=>Uw
end
section
variable{X:Cx}{a b e:Expr}{fa fb f:FE}{fs:List FE}{p p2 pos:Pos}
theorem R5{K:Dk}{lo hi:Option FE}{σ:L2.St}{H:Hp}{Q:VK}(h:tD (Dm.C7 f lo hi) σ H Q):tSl (Rc K) (tD f) (tOf lo) (tOf hi) σ H Q:=by
 obtain⟨H0,ρ,x,ρ',st,e,k⟩:=h;unfold Dm.C7 at e;split at e
 ·cases e
 rename_i x1 ρ1 e1;split at e
 ·cases e
 rename_i l ρ2 e2;split at e
 ·cases e
 rename_i hh ρ3 e3;split at e
 ·rename_i ds p1;split at e
  ·cases e
  rename_i UN;cases e;refine⟨H0,ρ,x1,ρ1,st,e1,fun v H1 Hb t1 r1=>?_⟩;refine wc t1.st e2 fun H2 Hc t2=>?_;refine wc t2.st e3 fun H3 Hd t3=>?_;have tt:=t1.trans (t2.trans t3);obtain⟨a,xs,rfl,qa,ra⟩:=l8 t3.st.same ((r1.mono (t2.trans t3)).look t3.st p1);refine⟨a,xs,rfl,SqT.of qa,?_,fun q hq=>?_⟩
  ·rw[ra.length,Ae _ _ _ (VN _),Ae _ _ _ (Nat.le_refl _)];exact UN
  ·have g:=aW.Hr (o:=HO.tup (yG xs l hh)) t3.st.same hq;exact k _ _ _ (tt.trans (.grow t3.st g)) (.tup aL ((zg ra l hh).mono g.s0))
 ·cases e
theorem M8{lo hi:Option Expr}{flo fhi:Option FE}(h:DE X e f)(hl:PO X lo (tOf flo))(hh:PO X hi (tOf fhi)):DE X (.Subscript e (.Slice lo hi none p2) pos) (Dm.C7 f flo fhi):=PE.weak (A5 Oq h hl hh) fun _ _ _=>R5
end
end Br
namespace Dm
noncomputable def jA:List Dat->Option (List Int)
 |[]=>some []
 |.int i::r=>(jA r).map fun ns=>i::ns
 |_=>none
end Dm
namespace Br
open PySem PySem.Spec PyProof.Rows L2
theorem intsAre_of:∀{ns:List Int} {its:List Value},Vals (ns.map V.int) its->IntsAre its ns
 |[],_,r=>by cases r;exact .nil
 |n::ns,_,r=>by
  rw[gV]at r;cases r with
  |cons h t=>obtain⟨tk,rfl⟩:=h;exact .cons _ _ (intsAre_of t)
theorem rC{H0:Hp}:∀{ds:List Dat} {xs:List V} {ns:List Int},aN H0 xs ds->Dm.jA ds=some ns->xs=ns.map V.int
 |[],_,ns,r,e=>by cases r;cases e;rfl
 |d::ds,_,ns,r,e=>by
  cases r with
  |cons h t=>
   cases d with
   |int i=>
    unfold Dm.jA at e;cases q:Dm.jA ds with
    |none=>rw[q]at e;cases e
    |some ms=>rw[q]at e;cases e;cases Rep.isInt h;rw[rC t q];rfl
   |_=>cases e
end Br
namespace Ts
open PySem PyProof.Rows
variable{M:Model}{A:Around}{E:Value->Shared->Prop}{s:Shared}{κ:KeyKind}{kd:SortKind}{a₀:Array Keyed}
def kh(M:Model)(A:Around)(E:Value->Shared->Prop)(s:Shared)(κ:KeyKind)(kd:SortKind):Prop:=
 ∀(x y:Keyed) (a b:κ.α) (st:SortSt) (Q:Option Bool->SortSt->Prop),κ.keyOf x.1=some a->κ.keyOf y.1=some b->kindOf st=kd->Q (some (κ.blt a b)) st->wpS M A E s (lt' x y) Q st
structure SB(kd:SortKind)(a₀:Array Keyed)(st:SortSt):Prop where
 perm:(arrOf st).Perm a₀
 kind:kindOf st=kd
 failed:failedOf st=none
theorem SB.size{st:SortSt}(h:SB kd a₀ st):(arrOf st).size=a₀.size:=h.perm.size_eq
theorem SB.arr{st:SortSt}(h:SB kd a₀ st){xs:Array Keyed}(hp:xs.Perm (arrOf st)):SB kd a₀ (setArr st xs):=⟨hp.trans h.perm,h.kind,h.failed⟩
theorem SB.pend{st:SortSt}(h:SB kd a₀ st)(p:Array (Nat×Nat×Nat)):SB kd a₀ (setPending st p):=⟨h.perm,h.kind,h.failed⟩
theorem SB.keys{st:SortSt}(h:SB kd a₀ st)(h0:KeysOf κ a₀):KeysOf κ (arrOf st):=fun p hp=>h0 p ((W7.mp h.perm).mem_iff.mp hp)
theorem Af{xs:Array Keyed}(h:KeysOf κ xs){i:Nat}(hi:i<xs.size):∃p,xs[i]?=some p/\κ.keyOf p.1=some (KK κ xs i):=by refine⟨xs[i],getElem?_pos xs i hi,?_⟩;obtain⟨a,e⟩:=h xs[i] (by simp);unfold KK;rw[getElem?_pos xs i hi];dsimp only;rw[e];rfl
theorem zl(hL:kh M A E s κ kd){st:SortSt}(hB:SB kd a₀ st)(h0:KeysOf κ a₀){i j:Nat}(hi:i<a₀.size)(hj:j<a₀.size){Q:Option Bool->SortSt->Prop}
  (h:Q (some (κ.blt (KK κ (arrOf st) i) (KK κ (arrOf st) j))) st):wpS M A E s (ltAt' i j) Q st:=by
 obtain⟨p,ep,kp⟩:=Af (hB.keys h0) (i:=i) (by rw[hB.size];exact hi);obtain⟨q,eq,kq⟩:=Af (hB.keys h0) (i:=j) (by rw[hB.size];exact hj);rw[ltAt'_eq];refine wpS_bind (wpS_get ?_);show wpS _ _ _ _ (elem' (arrOf st) i >>= fun x=>elem' (arrOf st) j >>= fun y=>lt' x y) Q st;rw[elem'_eq,elem'_eq,ep,eq];exact wpS_bind (wpS_pure (wpS_bind (wpS_pure (hL p q _ _ st Q kp kq hB.kind h))))
def Seg(κ:KeyKind)(xs:Array Keyed)(i j:Nat):Prop:=∀p q,i<=p->p<=q->q<j->κ.kle (KK κ xs p) (KK κ xs q)
def F2(κ:KeyKind)(xs:Array Keyed)(i j:Nat):Prop:=∀p q,i<=p->p<=q->q<j->κ.kle (KK κ xs q) (KK κ xs p)
def Out(xs ys:Array Keyed)(i j:Nat):Prop:=∀k,(k<i\/j<=k)->ys[k]?=xs[k]?
theorem Out.refl(xs:Array Keyed)(i j:Nat):Out xs xs i j:=fun _ _=>rfl
theorem Out.trans{xs ys zs:Array Keyed}{i j:Nat}(h:Out xs ys i j)(h':Out ys zs i j):Out xs zs i j:=fun k hk=>(h' k hk).trans (h k hk)
theorem Out.mono{xs ys:Array Keyed}{i j i' j':Nat}(h:Out xs ys i j)(h1:i'<=i)(h2:j<=j'):Out xs ys i' j':=fun k hk=>h k (by lia)
theorem Out.seg{xs ys:Array Keyed}{i j p q:Nat}(h:Out xs ys i j)(h':q<=i\/j<=p)(g:Seg κ xs p q):Seg κ ys p q:=fun a b ha hab hb=>by rw[KK_congr (h a (by lia)),KK_congr (h b (by lia))];exact g a b ha hab hb
theorem kK{xs:Array Keyed}{i j:Nat}(hj:j<=xs.size):Out xs (mirror xs i j ((j-i) / 2)) i j:=fun k hk=>by rw[getElem?_mirror_all hj,if_neg (by lia)]
theorem C8{xs:Array Keyed}{src d:Nat}(hs:src<xs.size)(hd:d<=src):Out xs (bubble xs src d) (src-d) (src+1):=fun k hk=>by rw[getElem?_bubble hs d hd,if_neg (by lia),if_neg (by lia)]
theorem O9(hL:kh M A E s κ kd)(h0:KeysOf κ a₀){st:SortSt}(hB:SB kd a₀ st){lo n ok:Nat}(hn:lo+n<=a₀.size)(h1:1<=ok)(hok:ok<=n)(hs:Seg κ (arrOf st) lo (lo+ok)){Q:Bool->SortSt->Prop}
  (h:∀xs,xs.Perm (arrOf st)->Seg κ xs lo (lo+n)->Out (arrOf st) xs lo (lo+n)->Q true (setArr st xs)):wpS M A E s (binarySort' lo n ok) Q st:=by
 rw[binarySort'_eq];refine wpS_bind (wpS_mono (wpS_forRange (I:=fun k c st'=>c=(none,())/\∃xs,st'=setArr st xs/\xs.Perm (arrOf st)/\Seg κ xs lo (lo+k)/\Out (arrOf st) xs lo (lo+n)) (Q:=fun c st'=>c=(none,())/\∃xs,st'=setArr st xs/\xs.Perm (arrOf st)/\Seg κ xs lo (lo+n)/\Out (arrOf st) xs lo (lo+n)) ?step ?Qi ?ini) ?post)
 case ini=>refine⟨rfl,arrOf st,rfl,Array.Perm.refl _,?_,Out.refl _ _ _⟩;rw[show max ok 1=ok by lia];exact hs
 case Qi=>rintro c st' ⟨rfl,xs,rfl,hp,hsg,ho⟩;rw[show max (max ok 1) n=n by lia]at hsg;exact⟨rfl,xs,rfl,hp,hsg,ho⟩
 case post=>rintro c st' ⟨rfl,xs,rfl,hp,hsg,ho⟩;exact wpS_pure (h xs hp hsg ho)
 case step=>
  rintro k c st' hk1 hk2 ⟨rfl,xs,rfl,hp,hsg,ho⟩;dsimp only;have hB':SB kd a₀ (setArr st xs):=hB.arr hp;have hsz:xs.size=a₀.size:=hB'.size;refine wpS_bind (wpS_mono (wpS_forRange (I:=fun i c st'=>∃ l r,c=(none,l,r)∧st'=setArr st xs∧l≤r∧r≤k∧r-l≤k-i∧(∀ p,p<l→κ.kle (KK κ xs (lo+p)) (KK κ xs (lo+k)))∧(∀ p,r≤p→p<k→κ.klt (KK κ xs (lo+k)) (KK κ xs (lo+p))))
   (Q:=fun c st'=>∃l,c=(none,l,l)/\st'=setArr st xs/\l<=k/\(∀p,p<l->κ.kle (KK κ xs (lo+p)) (KK κ xs (lo+k)))/\(∀p,l<=p->p<k->κ.klt (KK κ xs (lo+k)) (KK κ xs (lo+p)))) ?st2 ?fi2 ⟨0,k,rfl,rfl,VN _,Nat.le_refl _,by lia,fun p hp=>by lia,fun p h1 h2=>by lia⟩) ?po2)
  case fi2=>
   rintro c st' ⟨l,r,rfl,rfl,h1,h2,h3,h4,h5⟩;have:l=r:=by lia
   subst this;exact⟨l,rfl,rfl,h2,h4,h5⟩
  case st2=>
   rintro i c st' _ hi ⟨l,r,rfl,rfl,h1,h2,h3,h4,h5⟩;dsimp only;by_cases hlr:l≥r
   ·rw[if_pos hlr];have:l=r:=by lia
    subst this;exact wpS_pure ⟨l,rfl,rfl,h2,h4,h5⟩
   ·rw[if_neg hlr];refine wpS_bind (zl hL hB' h0 (by lia) (by lia) ?_);dsimp only;cases hb:κ.blt (KK κ (arrOf (setArr st xs)) (lo+k)) (KK κ (arrOf (setArr st xs)) (lo+(l+r) / 2))
    case true=>rw[if_pos rfl];refine wpS_pure ⟨l,(l+r) / 2,rfl,rfl,by lia,by lia,by lia,h4,fun p hp1 hp2=>?_⟩;exact KeyOrd.klt_of_klt_of_kle hb (hsg _ _ (by lia) (by lia) (by lia))
    case false=>rw[if_neg (by decide)];refine wpS_pure ⟨(l+r) / 2+1,r,rfl,rfl,by lia,h2,by lia,fun p hp1=>?_,h5⟩;exact WC (hsg _ _ (by lia) (by lia) (by lia)) hb
  case po2=>
   rintro c st' ⟨l,rfl,rfl,hlk,hlo,hhi⟩;dsimp only;rw[moveDown'_eq];have hd:lo+k-(lo+l)=k-l:=by lia
   have hsk:lo+k<xs.size:=by lia
   refine wpS_bind (wpS_modify (wpS_pure ⟨rfl,bubble xs (lo+k) (lo+k-(lo+l)),rfl,(bubble_perm _ _ _).trans hp,?_,ho.trans ((C8 hsk (by lia)).mono (by lia) (by lia))⟩));intro p q h1 h2 h3;rw[KK_bubble hsk (by lia),KK_bubble hsk (by lia)];rw[show lo+k-(lo+k-(lo+l))=lo+l by lia];by_cases hp1:p=lo+l
   ·rw[if_pos hp1];by_cases hq1:q=lo+l
    ·rw[if_pos hq1];exact Wz _
    ·rw[if_neg hq1,if_pos (by lia)];have:=hhi (q-1-lo) (by lia) (by lia);rw[show lo+(q-1-lo)=q-1 by lia]at this;exact V6 this
   ·rw[if_neg hp1];by_cases hp2:lo+l<p/\p<=lo+k
    ·rw[if_pos hp2,if_neg (by lia),if_pos (by lia)];exact hsg _ _ (by lia) (by lia) (by lia)
    ·rw[if_neg hp2];by_cases hq1:q=lo+l
     ·rw[if_pos hq1];have:=hlo (p-lo) (by lia);rw[show lo+(p-lo)=p by lia]at this;exact this
     ·rw[if_neg hq1];by_cases hq2:lo+l<q/\q<=lo+k
      ·rw[if_pos hq2];exact hsg _ _ (by lia) (by lia) (by lia)
      ·rw[if_neg hq2];exact hsg _ _ (by lia) (by lia) (by lia)
end Ts
namespace Ts
open PySem PyProof.Rows
variable{M:Model}{A:Around}{E:Value->Shared->Prop}{s:Shared}{κ:KeyKind}{kd:SortKind}{a₀:Array Keyed}
noncomputable def upL(lo k nrem:Nat):StateT SortSt Sem (Option Nat):=do
 let mut m:=k
 for _ in [k:nrem] do
  let some c <- ltAt' (lo+m) (lo+m-1)
   |return none
  if c then break
  m:=m+1
 return some m
noncomputable def M9(lo k nrem:Nat):StateT SortSt Sem (Option Nat):=do
 rule "list.sort.descending-run"
 let mut m:=k+1
 let mut e:=0
 for _ in [k+1:nrem] do
  let some c <- ltAt' (lo+m) (lo+m-1)
   |return none
  if c then
   if e>0 then reverseSlice' (lo+m-(e+1)) (lo+m)
   e:=0
  else
   let some d <- ltAt' (lo+m-1) (lo+m)
    |return none
   if d then break
   e:=e+1
  m:=m+1
 if e>0 then reverseSlice' (lo+m-(e+1)) (lo+m)
 reverseSlice' lo (lo+m)
 let mut z:=m
 for _ in [m:nrem] do
  let some c <- ltAt' (lo+z) (lo+z-1)
   |return none
  if c then break
  z:=z+1
 return some z
theorem K9{xs:Array Keyed}{i:Nat}:Seg κ xs i (i+1):=fun p q a b c=>by
 have:p=q:=by lia
 subst this;exact Wz _
theorem Bq{xs:Array Keyed}{i n:Nat}(h:Seg κ xs i (i+n))(h1:1<=n)(hb:κ.kle (KK κ xs (i+n-1)) (KK κ xs (i+n))):Seg κ xs i (i+(n+1)):=fun p q a b c=>by
 by_cases hq:q<i+n
 ·exact h p q a b hq
 ·have:q=i+n:=by lia
  subst this;by_cases hp:p=i+n
  ·subst hp;exact Wz _
  ·exact WC (h p (i+n-1) a (by lia) (by lia)) hb
theorem ki{xs:Array Keyed}{i n:Nat}(h:F2 κ xs i (i+n))(h1:1<=n)(hb:κ.kle (KK κ xs (i+n)) (KK κ xs (i+n-1))):F2 κ xs i (i+(n+1)):=fun p q a b c=>by
 by_cases hq:q<i+n
 ·exact h p q a b hq
 ·have:q=i+n:=by lia
  subst this;by_cases hp:p=i+n
  ·subst hp;exact Wz _
  ·exact WC hb (h p (i+n-1) a (by lia) (by lia))
section
variable{prog:Program}{w:World}
theorem R6(hL:kh (model prog w) A E s κ kd)(h0:KeysOf κ a₀){st:SortSt}(hB:SB kd a₀ st){lo k nrem:Nat}(hn:lo+nrem<=a₀.size)(h1:1<=k)(hk:k<=nrem)(hs:Seg κ (arrOf st) lo (lo+k)){Q:Option Nat->SortSt->Prop}
  (h:∀n,k<=n->n<=nrem->Seg κ (arrOf st) lo (lo+n)->Q (some n) st):wpS (model prog w) A E s (upL lo k nrem) Q st:=by
 unfold upL;refine wpS_bind (wpS_mono (wpS_forRange (I:=fun i c st'=>c=(none,i)/\st'=st/\i<=nrem/\Seg κ (arrOf st) lo (lo+i)) (Q:=fun c st'=>∃n,c=(none,n)/\st'=st/\k<=n/\n<=nrem/\Seg κ (arrOf st) lo (lo+n)) ?st1 ?fi1 ⟨rfl,rfl,hk,hs⟩) ?po1)
 case fi1=>rintro c st' ⟨rfl,rfl,hle,hsg⟩;exact⟨_,rfl,rfl,by lia,hle,hsg⟩
 case st1=>
  rintro i c st' hi1 hi2 ⟨rfl,rfl,hle,hsg⟩;dsimp only;refine wpS_bind (zl hL hB h0 (by lia) (by lia) ?_);dsimp only;cases hb:κ.blt (KK κ (arrOf st') (lo+i)) (KK κ (arrOf st') (lo+i-1))
  case true=>rw[if_pos rfl];exact wpS_pure ⟨i,rfl,rfl,hi1,hle,hsg⟩
  case false=>rw[if_neg (by decide)];exact wpS_pure ⟨rfl,rfl,by lia,Bq hsg (by lia) hb⟩
 case po1=>rintro c st' ⟨n,rfl,rfl,h2,h3,h4⟩;exact wpS_pure (h n h2 h3 h4)
theorem Ag{xs:Array Keyed}{i j:Nat}(hj:j<=xs.size)(he:∀k,i<=k->k<j->KK κ xs k=KK κ xs (j-1)):∀k,KK κ (mirror xs i j ((j-i) / 2)) k=KK κ xs k:=KK_mirror_equal hj he
theorem EF(hL:kh (model prog w) A E s κ kd)(h0:KeysOf κ a₀){st:SortSt}(hB:SB kd a₀ st){lo k nrem:Nat}(hn:lo+nrem<=a₀.size)(h1:1<=k)(hk:k<nrem)(hs:F2 κ (arrOf st) lo (lo+(k+1))){Q:Option Nat->SortSt->Prop}
  (h:∀n xs,1<=n->n<=nrem->xs.Perm (arrOf st)->Seg κ xs lo (lo+n)->Out (arrOf st) xs lo (lo+nrem)->Q (some n) (setArr st xs)):wpS (model prog w) A E s (M9 lo k nrem) Q st:=by
 unfold M9;refine wpS_bind (wpS_lift (wpAny_rule ⟨rfl,?_⟩));refine wpS_bind (wpS_mono (wpS_forRange
  (I:=fun i c st'=>∃e xs,c=(none,i,e)/\st'=setArr st xs/\i<=nrem/\xs.Perm (arrOf st)/\Out (arrOf st) xs lo (lo+nrem)/\F2 κ xs lo (lo+i)/\e+1<=i/\∀p,lo+i-(e+1)<=p->p<lo+i->KK κ xs p=KK κ xs (lo+i-1))
  (Q:=fun c st'=>∃e i xs,c=(none,i,e)/\st'=setArr st xs/\k+1<=i/\i<=nrem/\xs.Perm (arrOf st)/\Out (arrOf st) xs lo (lo+nrem)/\F2 κ xs lo (lo+i)/\e+1<=i/\∀p,lo+i-(e+1)<=p->p<lo+i->KK κ xs p=KK κ xs (lo+i-1)) ?st1 ?fi1 ?in1) ?po1)
 case in1=>exact⟨0,arrOf st,rfl,rfl,by lia,Array.Perm.refl _,Out.refl _ _ _,hs,by lia,fun p h2 h3=>by rw[show p=lo+(k+1)-1 by lia]⟩
 case fi1=>rintro c st' ⟨e,xs,rfl,rfl,h2,h3,h4,h5,h6,h7⟩;exact⟨e,_,xs,rfl,rfl,by lia,h2,h3,h4,h5,h6,h7⟩
 case st1=>
  rintro i c st' hi1 hi2 ⟨e,xs,rfl,rfl,h2,h3,h4,h5,h6,h7⟩;have hB':SB kd a₀ (setArr st xs):=hB.arr h3;have hsz:xs.size=a₀.size:=hB'.size;dsimp only;refine wpS_bind (zl hL hB' h0 (by lia) (by lia) ?_);dsimp only;cases hb:κ.blt (KK κ (arrOf (setArr st xs)) (lo+i)) (KK κ (arrOf (setArr st xs)) (lo+i-1))
  case true=>
   rw[if_pos rfl];have hd:κ.kle (KK κ xs (lo+i)) (KK κ xs (lo+i-1)):=V6 hb;by_cases he:e>0
   ·rw[if_pos he,reverseSlice'_eq];have ke:=Ag (κ:=κ) (xs:=xs) (i:=lo+i-(e+1)) (j:=lo+i) (by lia) h7;refine wpS_bind (wpS_modify (wpS_pure ⟨0,mirror xs (lo+i-(e+1)) (lo+i) ((lo+i-(lo+i-(e+1))) / 2),rfl,rfl,by lia,(mirror_perm _ _ _ _).trans h3,h4.trans ((kK (by lia)).mono (by lia) (by lia)),?_,by lia,fun p h8 h9=>by rw[show p=lo+(i+1)-1 by lia]⟩));have:=ki h5 (by lia) hd;exact fun p q a b c=>by rw[ke,ke];exact this p q a b c
   ·rw[if_neg he];exact wpS_pure ⟨0,xs,rfl,rfl,by lia,h3,h4,ki h5 (by lia) hd,by lia,fun p h8 h9=>by rw[show p=lo+(i+1)-1 by lia]⟩
  case false=>
   rw[if_neg (by decide)];refine wpS_bind (zl hL hB' h0 (by lia) (by lia) ?_);dsimp only;cases hb2:κ.blt (KK κ (arrOf (setArr st xs)) (lo+i-1)) (KK κ (arrOf (setArr st xs)) (lo+i))
   case true=>rw[if_pos rfl];exact wpS_pure ⟨e,i,xs,rfl,rfl,hi1,h2,h3,h4,h5,h6,h7⟩
   case false=>
    rw[if_neg (by decide)];have heq:KK κ xs (lo+i-1)=KK κ xs (lo+i):=κ.total _ _ hb2 hb;refine wpS_pure ⟨e+1,xs,rfl,rfl,by lia,h3,h4,ki h5 (by lia) hb2,by lia,fun p h8 h9=>?_⟩;rw[show lo+(i+1)-1=lo+i by lia];by_cases hp:p=lo+i
    ·rw[hp]
    ·rw[h7 p (by lia) (by lia),heq]
 case po1=>
  rintro c st' ⟨e,i,xs,rfl,rfl,hki,h2,h3,h4,h5,h6,h7⟩;have hB':SB kd a₀ (setArr st xs):=hB.arr h3;have hsz:xs.size=a₀.size:=hB'.size;dsimp only;have last:∀ys,ys.Perm xs->(∀p,KK κ ys p=KK κ xs p)->Out xs ys lo (lo+nrem)->wpS (model prog w) A E s (reverseSlice' lo (lo+i) >>= fun _=>upL lo i nrem) Q (setArr st ys):=fun ys hp hk hO=>by
   rw[reverseSlice'_eq];have U_:ys.size=a₀.size:=hp.size_eq.trans hsz;refine wpS_bind (wpS_modify ?_);have hB2:SB kd a₀ (setArr st (mirror ys lo (lo+i) ((lo+i-lo) / 2))):=hB.arr ((mirror_perm _ _ _ _).trans (hp.trans h3));refine R6 hL h0 hB2 hn (by lia) h2 (fun p q a b c=>?_) fun n h8 h9 h10=>?_
   ·show κ.kle (KK κ (mirror ys lo (lo+i) ((lo+i-lo) / 2)) p) (KK κ (mirror ys lo (lo+i) ((lo+i-lo) / 2)) q);rw[KK_mirror (by lia),KK_mirror (by lia),if_pos (by lia),if_pos (by lia),hk,hk];exact h5 _ _ (by lia) (by lia) (by lia)
   ·exact h n _ (by lia) h9 ((mirror_perm _ _ _ _).trans (hp.trans h3)) h10 ((h4.trans hO).trans ((kK (by lia)).mono (by lia) (by lia)))
  by_cases he:e>0
  ·rw[if_pos he];refine wpS_bind ?_;rw[reverseSlice'_eq];refine wpS_modify ?_;exact last (mirror xs (lo+i-(e+1)) (lo+i) ((lo+i-(lo+i-(e+1))) / 2)) (mirror_perm _ _ _ _) (Ag (xs:=xs) (by lia) h7) ((kK (xs:=xs) (by lia)).mono (by lia) (by lia))
  ·rw[if_neg he];exact last xs (Array.Perm.refl _) (fun _=>rfl) (Out.refl _ _ _)
theorem O_(hL:kh (model prog w) A E s κ kd)(h0:KeysOf κ a₀){st:SortSt}(hB:SB kd a₀ st){lo nrem:Nat}(hn:lo+nrem<=a₀.size)(h1:1<=nrem){Q:Option Nat->SortSt->Prop}
  (h:∀n xs,1<=n->n<=nrem->xs.Perm (arrOf st)->Seg κ xs lo (lo+n)->Out (arrOf st) xs lo (lo+nrem)->Q (some n) (setArr st xs)):wpS (model prog w) A E s (countRun' lo nrem) Q st:=by
 rw[countRun'_eq];refine wpS_bind (wpS_mono (wpS_forRange (I:=fun i c st'=>c=(none,i)∧st'=st∧i≤nrem∧Seg κ (arrOf st) lo (lo+i))
  (Q:=fun c st'=>∃n,c=(none,n)/\st'=st/\1<=n/\n<=nrem/\Seg κ (arrOf st) lo (lo+n)/\(n=nrem\/κ.klt (KK κ (arrOf st) (lo+n)) (KK κ (arrOf st) (lo+n-1)))) ?st1 ?fi1 ⟨rfl,rfl,h1,K9⟩) ?po1)
 case fi1=>rintro c st' ⟨rfl,rfl,hle,hsg⟩;exact⟨_,rfl,rfl,by lia,hle,hsg,.inl (by lia)⟩
 case st1=>
  rintro i c st' hi1 hi2 ⟨rfl,rfl,hle,hsg⟩;dsimp only;refine wpS_bind (zl hL hB h0 (by lia) (by lia) ?_);dsimp only;cases hb:κ.blt (KK κ (arrOf st') (lo+i)) (KK κ (arrOf st') (lo+i-1))
  case true=>rw[if_pos rfl];exact wpS_pure ⟨i,rfl,rfl,hi1,hle,hsg,.inr hb⟩
  case false=>rw[if_neg (by decide)];exact wpS_pure ⟨rfl,rfl,by lia,Bq hsg hi1 hb⟩
 case po1=>
  rintro c st' ⟨n,rfl,rfl,hn1,hle,hsg,hstop⟩;dsimp only;by_cases hnn:n=nrem
  ·rw[if_pos (by simpa using hnn)];exact wpS_pure (h n _ hn1 hle (Array.Perm.refl _) hsg (Out.refl _ _ _))
  ·rw[if_neg (by simpa using hnn)];have Qc:κ.klt (KK κ (arrOf st') (lo+n)) (KK κ (arrOf st') (lo+n-1)):=hstop.resolve_left hnn;by_cases hn2:n>1
   ·rw[if_pos hn2];refine wpS_bind (zl hL hB h0 (by lia) (by lia) ?_);dsimp only;cases hb:κ.blt (KK κ (arrOf st') lo) (KK κ (arrOf st') (lo+n-1))
    case true=>rw[if_pos rfl];exact wpS_pure (h n _ hn1 hle (Array.Perm.refl _) hsg (Out.refl _ _ _))
    case false=>
     rw[if_neg (by decide)];have hsz:=hB.size;have Pb:∀p,lo<=p->p<lo+n->KK κ (arrOf st') p=KK κ (arrOf st') (lo+n-1):=fun p h2 h3=>KeyOrd.kle_antisymm (hsg p _ h2 (by lia) (by lia)) (WC hb (hsg lo p (by lia) h2 h3))
     have ke:=Ag (κ:=κ) (xs:=arrOf st') (i:=lo) (j:=lo+n) (by lia) Pb;refine wpS_bind ?_;rw[reverseSlice'_eq];refine wpS_modify ?_;have hB2:SB kd a₀ (setArr st' (mirror (arrOf st') lo (lo+n) ((lo+n-lo) / 2))):=hB.arr (mirror_perm _ _ _ _);refine EF hL h0 hB2 hn hn1 (by lia) ?_ fun m xs h2 h3 h4 h5 h6=>?_
     ·have:F2 κ (arrOf st') lo (lo+(n+1)):=ki (fun p q a b c=>by rw[Pb p a (by lia),Pb q (by lia) c];exact Wz _) hn1 (V6 Qc);intro p q a b c;show κ.kle (KK κ (mirror (arrOf st') lo (lo+n) ((lo+n-lo) / 2)) q) (KK κ (mirror (arrOf st') lo (lo+n) ((lo+n-lo) / 2)) p);rw[ke,ke];exact this p q a b c
     ·exact h m xs h2 h3 (h4.trans (mirror_perm _ _ _ _)) h5 (((kK (by lia)).mono (by lia) (by lia)).trans h6)
   ·rw[if_neg hn2];have:n=1:=by lia
    subst this;refine EF hL h0 hB hn hn1 (by lia) ?_ h;exact ki (fun p q a b c=>by
     have:p=q:=by lia
     subst this;exact Wz _) hn1 (V6 Qc)
end
end Ts
namespace Ts
open PySem PyProof.Rows
variable{M:Model}{A:Around}{E:Value->Shared->Prop}{s:Shared}{κ:KeyKind}{kd:SortKind}{a₀:Array Keyed}
noncomputable def vm:Bool->Keyed->Array Keyed->Nat->Nat->Nat->StateT SortSt Sem (Option Nat):=sortPriv% PySem.Builtin.gallop
noncomputable def bey(left:Bool)(x:Keyed)(xs:Array Keyed)(i:Nat):StateT SortSt Sem (Option Bool):=do
 let y <- elem' xs i
 if left then lt' y x
 else
  let c <- lt' x y
  return c.map (!·)
theorem Pc(left:Bool)(x:Keyed)(xs:Array Keyed)(b n hint:Nat):vm left x xs b n hint=(do
  let mut l:=0
  let mut o:=1
  let mut u:=0
  let mut v:=0
  let some c <- bey left x xs (b+hint)
   |return none
  if c then
   let m:=n-hint
   for _ in [0:n] do
    if o≥m then break
    let some d <- bey left x xs (b+(hint+o))
     |return none
    if !d then break
    l:=o
    o:=2*o+1
   u:=hint+l+1
   v:=hint+min o m
  else
   let m:=hint+1
   for _ in [0:n] do
    if o≥m then break
    let some d <- bey left x xs (b+(hint-o))
     |return none
    if d then break
    l:=o
    o:=2*o+1
   u:=hint+1-min o m
   v:=hint-l
  for _ in [0:n] do
   if u≥v then break
   let z:=u+(v-u) / 2
   let some d <- bey left x xs (b+z)
    |return none
   if d then u:=z+1
   else v:=z
  return some v):=rfl
noncomputable def pass(κ:KeyKind)(left:Bool)(k:κ.α)(xs:Array Keyed)(i:Nat):Bool:=if left then κ.blt (KK κ xs i) k else !κ.blt k (KK κ xs i)
theorem F3{left:Bool}{k:κ.α}{xs:Array Keyed}{i j:Nat}(h:κ.kle (KK κ xs i) (KK κ xs j))(hp:pass κ left k xs j=true):pass κ left k xs i=true:=by
 unfold pass at hp ⊢;cases left with
 |true=>exact KeyOrd.klt_of_kle_of_klt h hp
 |false=>
  have hp':κ.blt k (KK κ xs j)=false:=by simpa using hp
  have:κ.blt k (KK κ xs i)=false:=by
   cases hb:κ.blt k (KK κ xs i)
   ·rfl
   ·have:=KeyOrd.klt_of_klt_of_kle (O:=κ.toKeyOrd) hb h;rw[show κ.klt k (KK κ xs j)=(κ.blt k (KK κ xs j)=true) from rfl,hp']at this;cases this
  simp[this]
theorem Ah(hL:kh M A E s κ kd){left:Bool}{x:Keyed}{k:κ.α}{xs:Array Keyed}{i:Nat}{st:SortSt}(hx:κ.keyOf x.1=some k)(hk:KeysOf κ xs)(hi:i<xs.size)(hd:kindOf st=kd){Q:Option Bool->SortSt->Prop}
  (h:Q (some (pass κ left k xs i)) st):wpS M A E s (bey left x xs i) Q st:=by
 obtain⟨p,ep,kp⟩:=Af hk hi;unfold bey;rw[elem'_eq,ep];refine wpS_bind (wpS_pure ?_);unfold pass at h;cases left with
 |true=>exact hL p x _ _ st Q kp hx hd h
 |false=>exact wpS_bind (hL x p _ _ st _ hx kp hd (wpS_pure h))
noncomputable def R7(left:Bool)(x:Keyed)(xs:Array Keyed)(b n u0 v0:Nat):StateT SortSt Sem (Option Nat):=do
 let mut u:=u0
 let mut v:=v0
 for _ in [0:n] do
  if u≥v then break
  let z:=u+(v-u) / 2
  let some d <- bey left x xs (b+z)
   |return none
  if d then u:=z+1
  else v:=z
 return some v
theorem HZ(hL:kh M A E s κ kd){left:Bool}{x:Keyed}{k:κ.α}{xs:Array Keyed}{b n u0 v0:Nat}{st:SortSt}(hx:κ.keyOf x.1=some k)(hk:KeysOf κ xs)(hb:b+n<=xs.size)(hd:kindOf st=kd)
  (up:∀i j,i<=j->j<n->pass κ left k xs (b+j)=true->pass κ left k xs (b+i)=true) (dn:∀i j,i<=j->j<n->pass κ left k xs (b+i)=false->pass κ left k xs (b+j)=false)
  (huv:u0<=v0) (hv:v0<=n) (hu1:∀i,i<u0->pass κ left k xs (b+i)=true) (hv1:∀i,v0<=i->i<n->pass κ left k xs (b+i)=false) {Q:Option Nat->SortSt->Prop}
  (h:∀m,m<=n->(∀i,i<m->pass κ left k xs (b+i)=true)->(∀i,m<=i->i<n->pass κ left k xs (b+i)=false)->Q (some m) st):wpS M A E s (R7 left x xs b n u0 v0) Q st:=by
 unfold R7;refine wpS_bind (wpS_mono (wpS_forRange (I:=fun i c st'=>∃ u v,c=(none,u,v)∧st'=st∧u≤v∧v≤n∧v-u≤n-i∧(∀ i,i<u→pass κ left k xs (b+i)=true)∧(∀ i,v≤i→i<n→pass κ left k xs (b+i)=false))
  (Q:=fun c st'=>∃v,c=(none,v,v)/\st'=st/\v<=n/\(∀i,i<v->pass κ left k xs (b+i)=true)/\(∀i,v<=i->i<n->pass κ left k xs (b+i)=false)) ?s1 ?f1 ⟨u0,v0,rfl,rfl,huv,hv,by lia,hu1,hv1⟩) ?p1)
 case f1=>
  rintro c st' ⟨u,v,rfl,rfl,h1,h2,h3,h4,h5⟩;have:u=v:=by lia
  subst this;exact⟨u,rfl,rfl,h2,h4,h5⟩
 case s1=>
  rintro i c st' _ hi ⟨u,v,rfl,rfl,h1,h2,h3,h4,h5⟩;dsimp only;by_cases hu:u≥v
  ·rw[if_pos hu];have:u=v:=by lia
   subst this;exact wpS_pure ⟨u,rfl,rfl,h2,h4,h5⟩
  ·rw[if_neg hu];refine wpS_bind (Ah hL hx hk (by lia) hd ?_);dsimp only;cases hp:pass κ left k xs (b+(u+(v-u) / 2))
   case true=>rw[if_pos rfl];exact wpS_pure ⟨u+(v-u) / 2+1,v,rfl,rfl,by lia,h2,by lia,fun j hj=>up j _ (by lia) (by lia) hp,h5⟩
   case false=>rw[if_neg (by decide)];exact wpS_pure ⟨u,u+(v-u) / 2,rfl,rfl,by lia,by lia,by lia,h4,fun j hj hj2=>dn _ j hj hj2 hp⟩
 case p1=>rintro c st' ⟨v,rfl,rfl,h2,h3,h4⟩;exact wpS_pure (h v h2 h3 h4)
theorem tN(hL:kh M A E s κ kd){left:Bool}{x:Keyed}{k:κ.α}{xs:Array Keyed}{b n hint:Nat}{st:SortSt}(hx:κ.keyOf x.1=some k)(hk:KeysOf κ xs)(hb:b+n<=xs.size)(hh:hint<n)(hs:Seg κ xs b (b+n))(hd:kindOf st=kd){Q:Option Nat->SortSt->Prop}
  (h:∀m,m<=n->(∀i,i<m->pass κ left k xs (b+i)=true)->(∀i,m<=i->i<n->pass κ left k xs (b+i)=false)->Q (some m) st):wpS M A E s (vm left x xs b n hint) Q st:=by
 have up:∀i j,i<=j->j<n->pass κ left k xs (b+j)=true->pass κ left k xs (b+i)=true:=fun i j h1 h2=>F3 (hs _ _ (by lia) (by lia) (by lia));have dn:∀i j,i<=j->j<n->pass κ left k xs (b+i)=false->pass κ left k xs (b+j)=false:=fun i j h1 h2 h3=>by
  cases e:pass κ left k xs (b+j)
  ·rfl
  ·rw[up i j h1 h2 e]at h3;cases h3
 rw[Pc];dsimp only;refine wpS_bind (Ah hL hx hk (by lia) hd ?_);dsimp only;cases hc:pass κ left k xs (b+hint)
 case true=>
  rw[if_pos rfl];refine wpS_bind (wpS_mono (wpS_forRange (I:=fun i c st'=>∃ l o,c=(none,l,o)∧st'=st∧i+1≤o∧l<o∧hint+l<n∧pass κ left k xs (b+(hint+l))=true)
   (Q:=fun c st'=>∃l o,c=(none,l,o)/\st'=st/\l<o/\hint+l<n/\pass κ left k xs (b+(hint+l))=true/\(o<n-hint->pass κ left k xs (b+(hint+o))=false)) ?s1 ?f1 ⟨0,1,rfl,rfl,by lia,by lia,by lia,hc⟩) ?p1)
  case f1=>rintro c st' ⟨l,o,rfl,rfl,h1,h2,h3,h4⟩;exact⟨l,o,rfl,rfl,h2,h3,h4,fun z=>by lia⟩
  case s1=>
   rintro i c st' _ hi ⟨l,o,rfl,rfl,h1,h2,h3,h4⟩;dsimp only;by_cases ho:o≥n-hint
   ·rw[if_pos ho];exact wpS_pure ⟨l,o,rfl,rfl,h2,h3,h4,fun z=>by lia⟩
   ·rw[if_neg ho];refine wpS_bind (Ah hL hx hk (by lia) hd ?_);dsimp only;cases hp:pass κ left k xs (b+(hint+o))
    case false=>rw[if_pos (by decide)];exact wpS_pure ⟨l,o,rfl,rfl,h2,h3,h4,fun _=>hp⟩
    case true=>rw[if_neg (by decide)];exact wpS_pure ⟨o,2*o+1,rfl,rfl,by lia,by lia,by lia,hp⟩
  case p1=>
   rintro c st' ⟨l,o,rfl,rfl,h2,h3,h4,h5⟩;dsimp only;refine HZ hL hx hk hb hd up dn (u0:=hint+l+1) (v0:=hint+min o (n-hint)) (by lia) (by lia) (fun j hj=>up j _ (by lia) h3 h4) (fun j hj hj2=>?_) h;by_cases ho:o<n-hint
   ·exact dn (hint+o) j (by lia) hj2 (h5 ho)
   ·lia
 case false=>
  rw[if_neg (by decide)];refine wpS_bind (wpS_mono (wpS_forRange (I:=fun i c st'=>∃ l o,c=(none,l,o)∧st'=st∧i+1≤o∧l<o∧l≤hint∧pass κ left k xs (b+(hint-l))=false)
   (Q:=fun c st'=>∃l o,c=(none,l,o)/\st'=st/\l<o/\l<=hint/\pass κ left k xs (b+(hint-l))=false/\(o<hint+1->pass κ left k xs (b+(hint-o))=true)) ?s2 ?f2 ⟨0,1,rfl,rfl,by lia,by lia,by lia,hc⟩) ?p2)
  case f2=>rintro c st' ⟨l,o,rfl,rfl,h1,h2,h3,h4⟩;exact⟨l,o,rfl,rfl,h2,h3,h4,fun z=>by lia⟩
  case s2=>
   rintro i c st' _ hi ⟨l,o,rfl,rfl,h1,h2,h3,h4⟩;dsimp only;by_cases ho:o≥hint+1
   ·rw[if_pos ho];exact wpS_pure ⟨l,o,rfl,rfl,h2,h3,h4,fun z=>by lia⟩
   ·rw[if_neg ho];refine wpS_bind (Ah hL hx hk (by lia) hd ?_);dsimp only;cases hp:pass κ left k xs (b+(hint-o))
    case true=>rw[if_pos rfl];exact wpS_pure ⟨l,o,rfl,rfl,h2,h3,h4,fun _=>hp⟩
    case false=>rw[if_neg (by decide)];exact wpS_pure ⟨o,2*o+1,rfl,rfl,by lia,by lia,by lia,hp⟩
  case p2=>
   rintro c st' ⟨l,o,rfl,rfl,h2,h3,h4,h5⟩;dsimp only;refine HZ hL hx hk hb hd up dn (u0:=hint+1-min o (hint+1)) (v0:=hint-l) (by lia) (by lia) (fun j hj=>?_) (fun j hj hj2=>dn _ j hj hj2 h4) h;by_cases ho:o<hint+1
   ·exact up j (hint-o) (by lia) (by lia) (h5 ho)
   ·lia
end Ts
namespace Ts
open PySem PyProof.Rows
variable{M:Model}{A:Around}{E:Value->Shared->Prop}{s:Shared}{κ:KeyKind}{kd:SortKind}{a₀:Array Keyed}
section
variable{i:Nat}
noncomputable def Pd:Array Keyed->Array Keyed->StateT SortSt Sem (Array Keyed):=sortPriv% PySem.Builtin.mergeLo
noncomputable def Pe:Array Keyed->Array Keyed->StateT SortSt Sem (Array Keyed):=sortPriv% PySem.Builtin.mergeHi
noncomputable def setG(st:SortSt)(g:Nat):SortSt:=Yw (kindOf st) (arrOf st) (pendingOf st) g (failedOf st)
noncomputable def yK(g:Nat):StateT SortSt Sem Unit:=modify fun st=>Yw (kindOf st) (arrOf st) (pendingOf st) g (failedOf st)
theorem Pf(a b:Array Keyed):Pd a b=(do
  rule "list.sort.merge-lo"
  let t:=a.size+b.size
  let dn (o:Array Keyed) (i j:Nat):=o++a.extract i a.size++b.extract j b.size
  let la (o:Array Keyed) (i j:Nat):=o++b.extract j b.size++a.extract i a.size
  let mut o:Array Keyed:=#[<- elem' b 0]
  let mut i:=0
  let mut j:=1
  if j == b.size then return dn o i j
  if i+1 == a.size then return la o i j
  let mut g:=gallopOf (<- get)
  for _ in [0:t] do
   let mut ca:=0
   let mut cb:=0
   for _ in [0:t] do
    let some Pg <- lt' (<- elem' b j) (<- elem' a i)
     |return dn o i j
    if Pg then
     o:=o.push (<- elem' b j)
     j:=j+1
     cb:=cb+1
     ca:=0
     if j == b.size then return dn o i j
     if cb≥g then break
    else
     o:=o.push (<- elem' a i)
     i:=i+1
     ca:=ca+1
     cb:=0
     if i+1 == a.size then return la o i j
     if ca≥g then break
   rule "list.sort.gallop"
   g:=g+1
   for _ in [0:t] do
    if g>1 then g:=g-1
    yK g
    let some k <- vm false (<- elem' b j) a i (a.size-i) 0
     |return dn o i j
    ca:=k
    if k>0 then
     o:=o++a.extract i (i+k)
     i:=i+k
     if i+1 == a.size then return la o i j
     if i == a.size then return dn o i j
    o:=o.push (<- elem' b j)
    j:=j+1
    if j == b.size then return dn o i j
    let some k <- vm true (<- elem' a i) b j (b.size-j) 0
     |return dn o i j
    cb:=k
    if k>0 then
     o:=o++b.extract j (j+k)
     j:=j+k
     if j == b.size then return dn o i j
    o:=o.push (<- elem' a i)
    i:=i+1
    if i+1 == a.size then return la o i j
    if ca<7&&cb<7 then break
   g:=g+1
   yK g
  unsupported "internal:list.sort.merge-bound"):=rfl
noncomputable def kp(κ:KeyKind)(p:Keyed):κ.α:=(κ.keyOf p.1).getD κ.dflt
def le(κ:KeyKind)(x y:Keyed):Prop:=κ.kle (kp κ x) (kp κ y)
structure MI(κ:KeyKind)(o A B tot:List Keyed):Prop where
 so:o.Pairwise (le κ)
 oA:∀x∈o,∀y∈A,le κ x y
 oB:∀x∈o,∀y∈B,le κ x y
 sA:A.Pairwise (le κ)
 sB:B.Pairwise (le κ)
 pm:(o++(A++B)).Perm tot
def Done(κ:KeyKind)(tot r:List Keyed):Prop:=r.Perm tot/\r.Pairwise (le κ)
theorem MI.Ph{o A1 A2 B tot:List Keyed}(h:MI κ o (A1++A2) B tot)(hl:∀x∈A1,∀y∈B,le κ x y):MI κ (o++A1) A2 B tot where
 so:=VU.mpr ⟨h.so,(VU.mp h.sA).1,fun x hx y hy=>h.oA x hx y (VA _ hy)⟩
 oA:=fun x hx y hy=>by
  rcases Vt.mp hx with hx | hx
  ·exact h.oA x hx y (VB _ hy)
  ·exact(VU.mp h.sA).2.2 x hx y hy
 oB:=fun x hx y hy=>by
  rcases Vt.mp hx with hx | hx
  ·exact h.oB x hx y hy
  ·exact hl x hx y hy
 sA:=(VU.mp h.sA).2.1
 sB:=h.sB
 pm:=by
  have:=h.pm
  rwa [Wa,<- Wa A1] 
theorem MI.swap{o A B tot:List Keyed}(h:MI κ o A B tot):MI κ o B A tot:=⟨h.so,h.oB,h.oA,h.sB,h.sA,(Ye.append_left o List.perm_append_comm).trans h.pm⟩
theorem MI.Pj{o A B1 B2 tot:List Keyed}(h:MI κ o A (B1++B2) tot)(hl:∀x∈B1,∀y∈A,le κ x y):MI κ (o++B1) A B2 tot:=(h.swap.Ph hl).swap
theorem MI.F4{o A tot:List Keyed}(h:MI κ o A [] tot):Done κ tot (o++A):=⟨by have:=h.pm;rwa [VQ]at this,VU.mpr ⟨h.so,h.sA,h.oA⟩⟩
theorem MI.K_{o B tot:List Keyed}(h:MI κ o [] B tot):Done κ tot (o++B):=h.swap.F4
theorem MI.H_{o A B tot:List Keyed}(h:MI κ o A B tot)(hl:∀x∈B,∀y∈A,le κ x y):Done κ tot (o++B++A):=
 (MI.Pj (B2:=[]) (by rw[VQ];exact h) hl).F4
theorem wj{a:Array Keyed}(h:i<a.size):a.toList.drop i=a[i]::a.toList.drop (i+1):=by rw[Wh (by rw[Vu];exact h)];simp
theorem xr{a:Array Keyed}{i k:Nat}:a.toList.drop i=(a.extract i (i+k)).toList++a.toList.drop (i+k):=by rw[WH,Wj,show i+k-i=k by lia,<- List.drop_drop];exact(W5 k _).symm
theorem kL{a:Array Keyed}:(a.extract i a.size).toList=a.toList.drop i:=by rw[WH,Wj,WO];rw[XT,Vu];exact Nat.le_refl _
theorem b9{a:Array Keyed}(h:i<a.size):elem' a i=pure a[i]:=by rw[elem'_eq,getElem?_pos a i h]
theorem bE{xs:Array Keyed}(hk:KeysOf κ xs)(h:i<xs.size):κ.keyOf (xs[i]).1=some (kp κ xs[i])/\KK κ xs i=kp κ xs[i]:=by
 obtain⟨p,e,k⟩:=Af hk h;rw[getElem?_pos xs i h]at e;cases e;have:KK κ xs i=kp κ xs[i]:=by unfold kp;rw[k];rfl
 exact⟨by rw[k,this],this⟩
theorem Ia{xs:Array Keyed}(hk:KeysOf κ xs)(h:xs.toList.Pairwise (le κ)):Seg κ xs 0 xs.size:=fun p q _ h2 h3=>by
 rw[(bE hk (i:=p) (by lia)).2,(bE hk h3).2];by_cases e:p=q
 ·subst e;exact Wz _
 ·have:=List.pairwise_iff_getElem.mp h p q (by simp;lia) (by simpa using h3) (by lia);have jB:le κ xs[p] xs[q]:=by simpa using this
  exact jB
theorem le_trans{x y z:Keyed}(h:le κ x y)(h':le κ y z):le κ x z:=WC h h'
theorem le_refl(x:Keyed):le κ x x:=Wz _
theorem oj{a:Array Keyed}(h:i<a.size)(hs:(a.toList.drop i).Pairwise (le κ)):∀y∈a.toList.drop i,le κ a[i] y:=fun y hy=>by
 rw[wj h]at hs hy;rcases Vq.mp hy with rfl | hy
 ·exact le_refl _
 ·exact(W2.mp hs).1 y hy
end
end Ts
namespace Ts
open PySem PyProof.Rows
variable{A:Around}{E:Value->Shared->Prop}{s:Shared}{κ:KeyKind}{kd:SortKind}{a₀:Array Keyed}{prog:Program}{w:World}
section
variable{a b:Array Keyed}
section
variable{i j:Nat}
def IM(κ:KeyKind)(a b o:Array Keyed)(i j:Nat):Prop:=i+1<a.size/\j<b.size/\MI κ o.toList (a.toList.drop i) (b.toList.drop j) (a.toList++b.toList)
theorem l_{x:Array Keyed}{i:Nat}(h:x.size<=i):x.toList.drop i=[]:=List.drop_eq_nil_of_le (by rw[Vu];exact h)
theorem wo{o:Array Keyed}(h:MI κ o.toList (a.toList.drop i) (b.toList.drop j) (a.toList++b.toList))(hj:j=b.size):Done κ (a.toList++b.toList) (o++a.extract i a.size++b.extract j b.size).toList:=by rw[VM,VM,kL,kL];rw[l_ (x:=b) (by lia)]at h ⊢;rw[VQ];exact h.F4
theorem La{o:Array Keyed}(h:MI κ o.toList (a.toList.drop i) (b.toList.drop j) (a.toList++b.toList))(hi:i=a.size):Done κ (a.toList++b.toList) (o++a.extract i a.size++b.extract j b.size).toList:=by rw[VM,VM,kL,kL];rw[l_ (x:=a) (by lia)]at h ⊢;rw[VQ];exact h.K_
theorem Ai{o:Array Keyed}(ha:1<=a.size)(last:∀y∈b.toList,le κ y (a[a.size-1]'(by lia)))(h:MI κ o.toList (a.toList.drop i) (b.toList.drop j) (a.toList++b.toList))(hi:i+1=a.size):Done κ (a.toList++b.toList) (o++b.extract j b.size++a.extract i a.size).toList:=by
 rw[VM,VM,kL,kL];refine h.H_ fun x hx y hy=>?_;rw[wj (by lia),l_ (x:=a) (by lia)]at hy;rw[Vw]at hy;subst hy;have:=last x (List.mem_of_mem_drop hx)
 rwa [show a[a.size-1]'(by lia)=a[i]'(by lia) by congr 1;lia]at this
theorem C9{o:Array Keyed}(hj:j<b.size)(h:MI κ o.toList (a.toList.drop i) (b.toList.drop j) (a.toList++b.toList))(hl:∀y∈a.toList.drop i,le κ b[j] y):MI κ (o.push b[j]).toList (a.toList.drop i) (b.toList.drop (j+1)) (a.toList++b.toList):=by rw[Xn];rw[wj hj]at h;exact MI.Pj (B1:=[b[j]]) h fun x hx y hy=>by rw[Vw]at hx;subst hx;exact hl y hy
theorem Ib{o:Array Keyed}(hi:i<a.size)(h:MI κ o.toList (a.toList.drop i) (b.toList.drop j) (a.toList++b.toList))(hl:∀y∈b.toList.drop j,le κ a[i] y):MI κ (o.push a[i]).toList (a.toList.drop (i+1)) (b.toList.drop j) (a.toList++b.toList):=by rw[Xn];rw[wj hi]at h;exact MI.Ph (A1:=[a[i]]) h fun x hx y hy=>by rw[Vw]at hx;subst hx;exact hl y hy
theorem cy{x:Array Keyed}{i k:Nat}{p:Keyed}(h:p∈(x.extract i (i+k)).toList):∃m,m<k/\∃hm:i+m<x.size,p=x[i+m]:=by obtain⟨n,hn,e⟩:=List.getElem_of_mem h;rw[Vu,Xl]at hn;refine⟨n,by lia,by lia,?_⟩;rw[<- e];simp
theorem Bs{x:Array Keyed}(hk:KeysOf κ x)(h:x.toList.Pairwise (le κ)){i:Nat}(hi:i<=x.size):Seg κ x i (i+(x.size-i)):=fun p q h1 h2 h3=>Ia hk h p q (by lia) h2 (by lia)
noncomputable abbrev Lb:=Option (Array Keyed)×Array Keyed×Nat×Nat×Nat×Nat×Nat
noncomputable def lA(a b o:Array Keyed)(i j g ca k:Nat):StateT SortSt Sem (ForInStep Lb):=do
 let z <- elem' a i
 if i+1+1 == a.size then pure (ForInStep.done (some (o.push z++b.extract j b.size++a.extract (i+1) a.size),o.push z,i+1,j,g,ca,k))
 else if ca<7&&k<7 then pure (ForInStep.done (none,o.push z,i+1,j,g,ca,k))
 else pure (Wx (none,o.push z,i+1,j,g,ca,k))
noncomputable def lB(a b o:Array Keyed)(i j g ca cb:Nat):StateT SortSt Sem (ForInStep Lb):=do
 let z <- elem' b j
 if j+1 == b.size then pure (ForInStep.done (some (o.push z++a.extract i a.size++b.extract (j+1) b.size),o.push z,i,j+1,g,ca,cb))
 else do
  let y <- elem' a i
  let r <- vm true y b (j+1) (b.size-(j+1)) 0
  match r with
   |some k=>
    if k>0 then
     if j+1+k == b.size then pure (ForInStep.done (some (o.push z++b.extract (j+1) (j+1+k)++a.extract i a.size++b.extract (j+1+k) b.size),o.push z++b.extract (j+1) (j+1+k),i,j+1+k,g,ca,k))
     else lA a b (o.push z++b.extract (j+1) (j+1+k)) i (j+1+k) g ca k
    else lA a b (o.push z) i (j+1) g ca k
   |x=>pure (ForInStep.done (some (o.push z++a.extract i a.size++b.extract (j+1) b.size),o.push z,i,j+1,g,ca,cb))
noncomputable def lC(a b o:Array Keyed)(i j g ca cb:Nat):StateT SortSt Sem (ForInStep Lb):=do
 yK g
 let z <- elem' b j
 let r <- vm false z a i (a.size-i) 0
 match r with
  |some k=>
   if k>0 then
    if i+k+1 == a.size then pure (ForInStep.done (some (o++a.extract i (i+k)++b.extract j b.size++a.extract (i+k) a.size),o++a.extract i (i+k),i+k,j,g,k,cb))
    else if i+k == a.size then pure (ForInStep.done (some (o++a.extract i (i+k)++a.extract (i+k) a.size++b.extract j b.size),o++a.extract i (i+k),i+k,j,g,k,cb))
    else lB a b (o++a.extract i (i+k)) (i+k) j g k cb
   else lB a b o i j g k cb
  |x=>pure (ForInStep.done (some (o++a.extract i a.size++b.extract j b.size),o,i,j,g,ca,cb))
def Lc(κ:KeyKind)(a b:Array Keyed)(N:Nat)(st:SortSt)(r:ForInStep Lb)(st':SortSt):Prop:=(∃g',st'=setG st g')/\match r with
 |.done c=>(∃r z,c=(some r,z)/\Done κ (a.toList++b.toList) r.toList)\/∃o i j g ca cb,c=(none,o,i,j,g,ca,cb)/\IM κ a b o i j/\N<=o.size
 |.yield c=>∃o i j g ca cb,c=(none,o,i,j,g,ca,cb)/\IM κ a b o i j/\N<=o.size
theorem M_{M:Model}{o:Array Keyed}{i j g ca k N:Nat}{st st':SortSt}(ha:1<=a.size)(last:∀y∈b.toList,le κ y (a[a.size-1]'(by lia)))(hs:∃g',st'=setG st g')(hi:i+1<a.size)(hj:j<b.size)
  (mi:MI κ o.toList (a.toList.drop i) (b.toList.drop j) (a.toList++b.toList)) (hl:∀y∈b.toList.drop j,le κ (a[i]'(by lia)) y) (hN:N<=o.size):wpS M A E s (lA a b o i j g ca k) (Lc κ a b N st) st':=by
 unfold lA;rw[b9 (a:=a) (i:=i) (by lia)];refine wpS_bind (wpS_pure ?_);have mi2:=Ib (by lia) mi hl;by_cases h1:i+1+1=a.size
 ·rw[if_pos (by simpa using h1)];exact wpS_pure ⟨hs,.inl ⟨_,_,rfl,Ai ha last mi2 h1⟩⟩
 ·rw[if_neg (by simpa using h1)];have im:IM κ a b (o.push (a[i]'(by lia))) (i+1) j:=⟨by lia,hj,mi2⟩
  split
  ·exact wpS_pure ⟨hs,.inr ⟨_,_,_,_,_,_,rfl,im,by rw[V1];lia⟩⟩
  ·exact wpS_pure ⟨hs,⟨_,_,_,_,_,_,rfl,im,by rw[V1];lia⟩⟩
theorem Na{M:Model}(hL:kh M A E s κ kd)(ka:KeysOf κ a)(kb:KeysOf κ b)(sb:b.toList.Pairwise (le κ)){o:Array Keyed}{i j g ca cb N:Nat}{st st':SortSt}(ha:1<=a.size)(last:∀y∈b.toList,le κ y (a[a.size-1]'(by lia)))(hd:kindOf st=kd)(hs:∃g',st'=setG st g')(hi:i+1<a.size)(hj:j<b.size)
  (mi:MI κ o.toList (a.toList.drop i) (b.toList.drop j) (a.toList++b.toList)) (hl:∀y∈a.toList.drop i,le κ b[j] y) (hN:N<=o.size):wpS M A E s (lB a b o i j g ca cb) (Lc κ a b N st) st':=by
 unfold lB;rw[b9 hj];refine wpS_bind (wpS_pure ?_);have mi2:=C9 hj mi hl;by_cases h1:j+1=b.size
 ·rw[if_pos (by simpa using h1)];exact wpS_pure ⟨hs,.inl ⟨_,_,rfl,wo mi2 h1⟩⟩
 rw[if_neg (by simpa using h1),b9 (a:=a) (i:=i) (by lia)];refine wpS_bind (wpS_pure ?_);obtain⟨g',rfl⟩:=hs;refine wpS_bind (tN (b:=j+1) (n:=b.size-(j+1)) (hint:=0) hL (bE ka (i:=i) (by lia)).1 kb (by lia) (by lia) (Bs kb sb (by lia)) (st:=setG st g') hd fun k hk h2 h3=>?_)
 try dsimp only
 have le1:∀x∈(b.extract (j+1) (j+1+k)).toList,∀y∈a.toList.drop i,le κ x y:=fun x hx y hy=>by obtain⟨m,hm,hm2,rfl⟩:=cy hx;have:=h2 m hm;unfold pass at this;rw[if_pos rfl,(bE kb hm2).2]at this;exact le_trans (V6 this) (oj (by lia) mi.sA y hy)
 have le2:∀y∈b.toList.drop (j+1+k),le κ (a[i]'(by lia)) y:=fun y hy=>by
  by_cases Qc:j+1+k<b.size
  ·have:=h3 k (Nat.le_refl _) (by lia);unfold pass at this;rw[if_pos rfl,(bE kb Qc).2]at this;refine le_trans this (oj Qc ?_ y hy);exact Yk.sublist (List.drop_sublist _ _) sb
  ·rw[l_ (by lia)]at hy;cases hy
 by_cases hk0:k>0
 ·rw[if_pos hk0];have mi3:MI κ (o.push b[j]++b.extract (j+1) (j+1+k)).toList (a.toList.drop i) (b.toList.drop (j+1+k)) (a.toList++b.toList):=by
   rw[VM];rw[xr (a:=b) (i:=j+1) (k:=k)]at mi2;exact mi2.Pj le1
  by_cases h4:j+1+k=b.size
  ·rw[if_pos (by simpa using h4)];exact wpS_pure ⟨⟨_,rfl⟩,.inl ⟨_,_,rfl,wo mi3 h4⟩⟩
  ·rw[if_neg (by simpa using h4)];exact M_ ha last ⟨_,rfl⟩ hi (by lia) mi3 le2 (by rw[XN,V1];lia)
 ·rw[if_neg hk0];have:k=0:=by lia
  subst this;exact M_ ha last ⟨_,rfl⟩ hi (by lia) mi2 le2 (by rw[V1];lia)
theorem R8{M:Model}(hL:kh M A E s κ kd)(ka:KeysOf κ a)(kb:KeysOf κ b)(sa:a.toList.Pairwise (le κ))(sb:b.toList.Pairwise (le κ)){o:Array Keyed}{i j g ca cb N:Nat}{st st':SortSt}(ha:1<=a.size)(last:∀y∈b.toList,le κ y (a[a.size-1]'(by lia)))(hd:kindOf st=kd)(hs:∃g',st'=setG st g')
  (im:IM κ a b o i j) (hN:N<=o.size):wpS M A E s (lC a b o i j g ca cb) (Lc κ a b N st) st':=by
 obtain⟨hi,hj,mi⟩:=im;obtain⟨g',rfl⟩:=hs;unfold lC;refine wpS_bind ?_;unfold yK;refine wpS_modify ?_;rw[b9 hj];refine wpS_bind (wpS_pure ?_);refine wpS_bind (tN (b:=i) (n:=a.size-i) (hint:=0) hL (bE kb hj).1 ka (by lia) (by lia) (Bs ka sa (by lia)) (st:=setG st g) hd fun k hk h2 h3=>?_)
 try dsimp only
 have le1:∀x∈(a.extract i (i+k)).toList,∀y∈b.toList.drop j,le κ x y:=fun x hx y hy=>by
  obtain⟨m,hm,hm2,rfl⟩:=cy hx;have:=h2 m hm;unfold pass at this;rw[if_neg (by decide),(bE ka hm2).2]at this;have jB:κ.blt (kp κ b[j]) (kp κ a[i+m])=false:=by simpa using this
  exact le_trans jB (oj hj mi.sB y hy)
 have le2:∀y∈a.toList.drop (i+k),le κ b[j] y:=fun y hy=>by
  by_cases Qc:i+k<a.size
  ·have:=h3 k (Nat.le_refl _) (by lia);unfold pass at this;rw[if_neg (by decide),(bE ka Qc).2]at this;have jB:κ.blt (kp κ b[j]) (kp κ a[i+k])=true:=by simpa using this
   refine le_trans (V6 jB) (oj Qc ?_ y hy);exact Yk.sublist (List.drop_sublist _ _) sa
  ·rw[l_ (by lia)]at hy;cases hy
 by_cases hk0:k>0
 ·rw[if_pos hk0];have mi3:MI κ (o++a.extract i (i+k)).toList (a.toList.drop (i+k)) (b.toList.drop j) (a.toList++b.toList):=by
   rw[VM];rw[xr (a:=a) (i:=i) (k:=k)]at mi;exact mi.Ph le1
  by_cases h4:i+k+1=a.size
  ·rw[if_pos (by simpa using h4)];exact wpS_pure ⟨⟨_,rfl⟩,.inl ⟨_,_,rfl,Ai ha last mi3 h4⟩⟩
  rw[if_neg (by simpa using h4)];by_cases h5:i+k=a.size
  ·rw[if_pos (by simpa using h5)];exact wpS_pure ⟨⟨_,rfl⟩,.inl ⟨_,_,rfl,La mi3 h5⟩⟩
  rw[if_neg (by simpa using h5)];exact Na hL ka kb sb ha last hd ⟨_,rfl⟩ (by lia) hj mi3 le2 (by rw[XN];lia)
 ·rw[if_neg hk0];have:k=0:=by lia
  subst this;exact Na hL ka kb sb ha last hd ⟨_,rfl⟩ hi hj mi le2 hN
theorem Pk(hL:kh (model prog w) A E s κ kd)(ka:KeysOf κ a)(kb:KeysOf κ b)(sa:a.toList.Pairwise (le κ))(sb:b.toList.Pairwise (le κ))(ha:1<=a.size)(hb:1<=b.size)
  (first:∀y∈a.toList,le κ (b[0]'(by lia)) y) (last:∀y∈b.toList,le κ y (a[a.size-1]'(by lia))) {st:SortSt} (hd:kindOf st=kd) {Q:Array Keyed->SortSt->Prop}
  (h:∀r g,Done κ (a.toList++b.toList) r.toList->Q r (setG st g)):wpS (model prog w) A E s (Pd a b) Q st:=by
 rw[Pf];refine wpS_bind (wpS_lift (wpAny_rule ⟨rfl,?_⟩))
 try dsimp only
 rw[b9 (a:=b) (i:=0) (by lia)];refine wpS_bind (wpS_pure ?_)
 try dsimp only
 have m0:MI κ (#[]:Array Keyed).toList (a.toList.drop 0) (b.toList.drop 0) (a.toList++b.toList):=⟨by simp,by simp,by simp,by simpa using sa,by simpa using sb,by simp⟩
 have m1:MI κ (#[b[0]'(by lia)]:Array Keyed).toList (a.toList.drop 0) (b.toList.drop 1) (a.toList++b.toList):=C9 (o:=#[]) (j:=0) (by lia) m0 (by simpa using first);have same:setG st (gallopOf st)=st:=rfl;by_cases hb1:1=b.size
 ·rw[if_pos (by simpa using hb1)];exact wpS_pure (same▸h _ (gallopOf st) (wo m1 hb1))
 rw[if_neg (by simpa using hb1)];by_cases ha1:0+1=a.size
 ·rw[if_pos (by simpa using ha1)];exact wpS_pure (same▸h _ (gallopOf st) (Ai ha last m1 ha1))
 rw[if_neg (by simpa using ha1)];refine wpS_bind (wpS_get ?_)
 try dsimp only
 have len:∀{o:Array Keyed} {i j:Nat},IM κ a b o i j->o.size<a.size+b.size:=fun {o i j} ⟨h1,h2,h3⟩=>by
  have:=h3.pm.length_eq;simp only[Vn,Vu,XT]at this
  lia
 refine wpS_bind (wpS_mono (wpS_forRange (I:=fun x c st'=>∃ o i j g,c=(none,o,i,j,g)∧(∃ g',st'=setG st g')∧IM κ a b o i j∧x+1≤o.size)
  (Q:=fun c st'=>∃r z,c=(some r,z)/\(∃g',st'=setG st g')/\Done κ (a.toList++b.toList) r.toList) ?st1 ?fi1 ⟨_,0,1,_,rfl,⟨gallopOf st,rfl⟩,⟨by lia,by lia,m1⟩,by simp⟩) ?po1)
 case fi1=>
  rintro c st' ⟨o,i,j,g,rfl,_,im,hsz⟩;have:=len im
  lia
 case po1=>rintro c st' ⟨r,z,rfl,⟨g',rfl⟩,hdn⟩;exact wpS_pure (h r g' hdn)
 case st1=>
  rintro x c st' _ hx ⟨o,i,j,g,rfl,⟨g',rfl⟩,im,hsz⟩
  try dsimp only
  refine wpS_bind (wpS_mono (wpS_forRange (I:=fun y c st''=>∃ o' i' j' ca cb,c=(none,o',i',j',ca,cb)∧st''=setG st g'∧IM κ a b o' i' j'∧o.size+y≤o'.size)
   (Q:=fun c st''=>st''=setG st g'/\((∃r z,c=(some r,z)/\Done κ (a.toList++b.toList) r.toList)\/∃o' i' j' ca cb,c=(none,o',i',j',ca,cb)/\IM κ a b o' i' j'/\o.size+1<=o'.size)) ?st2 ?fi2 ⟨o,i,j,0,0,rfl,rfl,im,by lia⟩) ?po2)
  case fi2=>rintro c st'' ⟨o',i',j',ca,cb,rfl,rfl,im',hs'⟩;exact⟨rfl,.inr ⟨o',i',j',ca,cb,rfl,im',by lia⟩⟩
  case st2=>
   rintro y c st'' _ hy ⟨o',i',j',ca,cb,rfl,rfl,⟨hi',hj',mi⟩,hs'⟩
   try dsimp only
   rw[b9 hj',b9 (a:=a) (i:=i') (by lia)];refine wpS_bind (wpS_pure (wpS_bind (wpS_pure ?_)));obtain⟨kb1,_⟩:=bE kb hj';obtain⟨ka1,_⟩:=bE ka (i:=i') (by lia);refine wpS_bind (hL _ _ _ _ _ _ kb1 ka1 hd ?_)
   try dsimp only
   cases hw:κ.blt (kp κ b[j']) (kp κ (a[i']'(by lia)))
   case true=>
    rw[if_pos rfl];refine wpS_bind (wpS_pure ?_)
    try dsimp only
    have mi2:=C9 hj' mi fun y hy=>le_trans (V6 hw) (oj (by lia) mi.sA y hy);by_cases hjb:j'+1=b.size
    ·rw[if_pos (by simpa using hjb)];exact wpS_pure ⟨rfl,.inl ⟨_,_,rfl,wo mi2 hjb⟩⟩
    rw[if_neg (by simpa using hjb)];by_cases hg:cb+1≥g
    ·rw[if_pos hg];exact wpS_pure ⟨rfl,.inr ⟨_,_,_,_,_,rfl,⟨hi',by lia,mi2⟩,by rw[V1];lia⟩⟩
    ·rw[if_neg hg];exact wpS_pure ⟨_,_,_,_,_,rfl,rfl,⟨hi',by lia,mi2⟩,by rw[V1];lia⟩
   case false=>
    rw[if_neg (by decide)];refine wpS_bind (wpS_pure ?_)
    try dsimp only
    have mi2:=Ib (by lia) mi fun y hy=>le_trans hw (oj hj' mi.sB y hy);by_cases hia:i'+1+1=a.size
    ·rw[if_pos (by simpa using hia)];exact wpS_pure ⟨rfl,.inl ⟨_,_,rfl,Ai ha last mi2 hia⟩⟩
    rw[if_neg (by simpa using hia)];by_cases hg:ca+1≥g
    ·rw[if_pos hg];exact wpS_pure ⟨rfl,.inr ⟨_,_,_,_,_,rfl,⟨by lia,hj',mi2⟩,by rw[V1];lia⟩⟩
    ·rw[if_neg hg];exact wpS_pure ⟨_,_,_,_,_,rfl,rfl,⟨by lia,hj',mi2⟩,by rw[V1];lia⟩
  case po2=>
   rintro c st'' ⟨rfl,⟨r,z,rfl,hdn⟩ | ⟨o',i',j',ca,cb,rfl,im',hs'⟩⟩
   ·dsimp only;exact wpS_pure ⟨r,_,rfl,⟨_,rfl⟩,hdn⟩
   try dsimp only
   refine wpS_bind (wpS_lift (wpAny_rule ⟨rfl,?_⟩));refine wpS_bind (wpS_mono (wpS_forRange (I:=fun y c st''=>∃ o2 i2 j2 g2 ca cb,c=(none,o2,i2,j2,g2,ca,cb)∧(∃ g',st''=setG st g')∧IM κ a b o2 i2 j2∧o.size+1≤o2.size)
    (Q:=fun c st''=>(∃g',st''=setG st g')/\((∃r z,c=(some r,z)/\Done κ (a.toList++b.toList) r.toList)\/∃o2 i2 j2 g2 ca cb,c=(none,o2,i2,j2,g2,ca,cb)/\IM κ a b o2 i2 j2/\o.size+1<=o2.size)) ?st3 ?fi3 ⟨o',i',j',_,_,_,rfl,⟨_,rfl⟩,im',hs'⟩) ?po3)
   case fi3=>rintro c st'' ⟨o2,i2,j2,g2,ca,cb,rfl,hg,im2,hs2⟩;exact⟨hg,.inr ⟨o2,i2,j2,g2,ca,cb,rfl,im2,hs2⟩⟩
   case po3=>
    rintro c st'' ⟨⟨g3,rfl⟩,⟨r,z,rfl,hdn⟩ | ⟨o2,i2,j2,g2,ca,cb,rfl,im2,hs2⟩⟩
    ·dsimp only;exact wpS_pure ⟨r,_,rfl,⟨_,rfl⟩,hdn⟩
    ·dsimp only;refine wpS_bind ?_;unfold yK;exact wpS_modify (wpS_pure ⟨o2,i2,j2,_,rfl,⟨_,rfl⟩,im2,by lia⟩)
   case st3=>
    rintro y c st'' _ hy ⟨o2,i2,j2,g2,ca,cb,rfl,⟨g3,rfl⟩,⟨hi2,hj2,mi⟩,hs2⟩;show wpS _ _ _ _ (if g2>1 then lC a b o2 i2 j2 (g2-1) ca cb else lC a b o2 i2 j2 g2 ca cb) _ _;have Qi:∀g,wpS (model prog w) A E s (lC a b o2 i2 j2 g ca cb) (Lc κ a b (o.size+1) st) (setG st g3):=fun g=>R8 hL ka kb sa sb ha last hd ⟨_,rfl⟩ ⟨hi2,hj2,mi⟩ hs2;split
    all_goals
     refine wpS_mono (Qi _) fun r st' hG=>?_;cases r with
     |done c=>exact hG
     |yield c=>obtain⟨hg,o,i,j,g,ca,cb,e,im,hz⟩:=hG;exact⟨o,i,j,g,ca,cb,e,hg,im,hz⟩
end
end
end Ts
namespace Ts
open PySem PyProof.Rows
variable{A:Around}{E:Value->Shared->Prop}{s:Shared}{κ:KeyKind}{kd:SortKind}{a₀:Array Keyed}{prog:Program}{w:World}
theorem Pn(a b:Array Keyed):Pe a b=(do
  rule "list.sort.merge-hi"
  let t:=a.size+b.size
  let dn (o:Array Keyed) (p q:Nat):=a.extract 0 p++b.extract 0 q++o.reverse
  let fb (o:Array Keyed) (p q:Nat):=b.extract 0 q++a.extract 0 p++o.reverse
  let mut p:=a.size-1
  let mut q:=b.size
  let mut o:Array Keyed:=#[<- elem' a p]
  if p == 0 then return dn o p q
  if q == 1 then return fb o p q
  let mut g:=gallopOf (<- get)
  for _ in [0:t] do
   let mut ca:=0
   let mut cb:=0
   for _ in [0:t] do
    let some Pg <- lt' (<- elem' b (q-1)) (<- elem' a (p-1))
     |return dn o p q
    if Pg then
     p:=p-1
     o:=o.push (<- elem' a p)
     ca:=ca+1
     cb:=0
     if p == 0 then return dn o p q
     if ca≥g then break
    else
     q:=q-1
     o:=o.push (<- elem' b q)
     cb:=cb+1
     ca:=0
     if q == 1 then return fb o p q
     if cb≥g then break
   rule "list.sort.gallop"
   g:=g+1
   for _ in [0:t] do
    if g>1 then g:=g-1
    yK g
    let some z <- vm false (<- elem' b (q-1)) a 0 p (p-1)
     |return dn o p q
    let k:=p-z
    ca:=k
    if k>0 then
     o:=o++(a.extract z p).reverse
     p:=z
     if p == 0 then return dn o p q
    q:=q-1
    o:=o.push (<- elem' b q)
    if q == 1 then return fb o p q
    let some z <- vm true (<- elem' a (p-1)) b 0 q (q-1)
     |return dn o p q
    let k:=q-z
    cb:=k
    if k>0 then
     o:=o++(b.extract z q).reverse
     q:=z
     if q == 1 then return fb o p q
     if q == 0 then return dn o p q
    p:=p-1
    o:=o.push (<- elem' a p)
    if p == 0 then return dn o p q
    if ca<7&&cb<7 then break
   g:=g+1
   yK g
  unsupported "internal:list.sort.merge-bound"):=rfl
structure MJ(κ:KeyKind)(R A B tot:List Keyed):Prop where
 sr:R.Pairwise (le κ)
 Ar:∀x∈A,∀y∈R,le κ x y
 Br:∀x∈B,∀y∈R,le κ x y
 sA:A.Pairwise (le κ)
 sB:B.Pairwise (le κ)
 pm:((A++B)++R).Perm tot
theorem MJ.swap{R A B tot:List Keyed}(h:MJ κ R A B tot):MJ κ R B A tot:=⟨h.sr,h.Br,h.Ar,h.sB,h.sA,(Ye.append_right R List.perm_append_comm).trans h.pm⟩
theorem MJ.Po{R A B1 B2 tot:List Keyed}(h:MJ κ R A (B1++B2) tot)(hl:∀x∈A,∀y∈B2,le κ x y):MJ κ (B2++R) A B1 tot where
 sr:=VU.mpr ⟨(VU.mp h.sB).2.1,h.sr,fun x hx y hy=>h.Br x (VB _ hx) y hy⟩
 Ar:=fun x hx y hy=>by
  rcases Vt.mp hy with hy | hy
  ·exact hl x hx y hy
  ·exact h.Ar x hx y hy
 Br:=fun x hx y hy=>by
  rcases Vt.mp hy with hy | hy
  ·exact(VU.mp h.sB).2.2 x hx y hy
  ·exact h.Br x (VA _ hx) y hy
 sA:=h.sA
 sB:=(VU.mp h.sB).1
 pm:=by
  have:=h.pm
  simpa [Wa] using this
theorem MJ.Pp{R A1 A2 B tot:List Keyed}(h:MJ κ R (A1++A2) B tot)(hl:∀x∈B,∀y∈A2,le κ x y):MJ κ (A2++R) A1 B tot:=(h.swap.Po hl).swap
theorem MJ.F4{R A tot:List Keyed}(h:MJ κ R A [] tot):Done κ tot (A++R):=⟨by have:=h.pm;rwa [VQ]at this,VU.mpr ⟨h.sA,h.sr,h.Ar⟩⟩
theorem MJ.K_{R B tot:List Keyed}(h:MJ κ R [] B tot):Done κ tot (B++R):=h.swap.F4
theorem MJ.H_{R A B tot:List Keyed}(h:MJ κ R A B tot)(hl:∀x∈B,∀y∈A,le κ x y):Done κ tot (B++A++R):=by
 have:=(MJ.Pp (A1:=[]) h hl).K_
 rwa [<- Wa]at this
section
variable{a b:Array Keyed}
section
variable{p q:Nat}
noncomputable abbrev MJa(κ:KeyKind)(a b o:Array Keyed)(p q:Nat):Prop:=MJ κ o.toList.reverse (a.toList.take p) (b.toList.take q) (a.toList++b.toList)
def IJ(κ:KeyKind)(a b o:Array Keyed)(p q:Nat):Prop:=1<=p/\p<=a.size/\2<=q/\q<=b.size/\MJa κ a b o p q
theorem gw{x:Array Keyed}{p:Nat}:(x.extract 0 p).toList=x.toList.take p:=by rw[WH,Wj,List.drop_zero,Nat.sub_zero]
theorem wu{x:Array Keyed}{p:Nat}(h:p<x.size):x.toList.take (p+1)=x.toList.take p++[x[p]]:=by rw[List.take_succ,V2 (by rw[Vu];exact h)];simp
theorem Bt{x:Array Keyed}{z p:Nat}(hz:z<=p):x.toList.take p=x.toList.take z++(x.extract z p).toList:=by rw[WH,Wj];have:=W5 z (x.toList.take p);rw[List.take_take,Nat.min_eq_left hz,List.drop_take]at this;exact this.symm
theorem Aj{o:Array Keyed}(h:MJa κ a b o p q)(hp:p=0):Done κ (a.toList++b.toList) (a.extract 0 p++b.extract 0 q++o.reverse).toList:=by rw[VM,VM,gw,gw,Xd];subst hp;unfold MJa at h;rw[YK]at h ⊢;rw[WW];exact h.K_
theorem Pq{o:Array Keyed}(h:MJa κ a b o p q)(hq:q=0):Done κ (a.toList++b.toList) (a.extract 0 p++b.extract 0 q++o.reverse).toList:=by rw[VM,VM,gw,gw,Xd];subst hq;unfold MJa at h;rw[YK]at h ⊢;rw[VQ];exact h.F4
theorem EG{o:Array Keyed}(hb:1<=b.size)(first:∀y∈a.toList,le κ (b[0]'(by lia)) y)(h:MJa κ a b o p q)(hq:q=1):Done κ (a.toList++b.toList) (b.extract 0 q++a.extract 0 p++o.reverse).toList:=by rw[VM,VM,gw,gw,Xd];refine MJ.H_ h fun x hx y hy=>?_;subst hq;rw[show 1=0+1 from rfl,wu (by lia),YK,WW,Vw]at hx;subst hx;exact first y (X3 hy)
theorem Nb{o:Array Keyed}(hq:q<b.size)(h:MJa κ a b o p (q+1))(hl:∀x∈a.toList.take p,le κ x b[q]):MJa κ a b (o.push b[q]) p q:=by unfold MJa at h ⊢;rw[Xn,Xw,List.reverse_singleton];rw[wu hq]at h;exact MJ.Po h fun x hx y hy=>by rw[Vw]at hy;subst hy;exact hl x hx
theorem Ic{o:Array Keyed}(hp:p<a.size)(h:MJa κ a b o (p+1) q)(hl:∀x∈b.toList.take q,le κ x a[p]):MJa κ a b (o.push a[p]) p q:=by unfold MJa at h ⊢;rw[Xn,Xw,List.reverse_singleton];rw[wu hp]at h;exact MJ.Pp h fun x hx y hy=>by rw[Vw]at hy;subst hy;exact hl x hx
theorem wA{x:Array Keyed}{p:Nat}(h:p<x.size)(hs:(x.toList.take (p+1)).Pairwise (le κ)):∀y∈x.toList.take (p+1),le κ y x[p]:=fun y hy=>by
 rw[wu h]at hs hy;rcases Vt.mp hy with hy | hy
 ·exact(VU.mp hs).2.2 y hy _ (Vw.mpr rfl)
 ·rw[Vw]at hy;subst hy;exact le_refl _
theorem Bu{x:Array Keyed}(hk:KeysOf κ x)(h:x.toList.Pairwise (le κ)){p:Nat}(hp:p<=x.size):Seg κ x 0 (0+p):=fun i j h1 h2 h3=>Ia hk h i j (by lia) h2 (by lia)
noncomputable abbrev Ld:=Option (Array Keyed)×Nat×Nat×Array Keyed×Nat×Nat×Nat
noncomputable def hA(a b o:Array Keyed)(p q g ca k:Nat):StateT SortSt Sem (ForInStep Ld):=do
 let z <- elem' a (p-1)
 if p-1 == 0 then pure (ForInStep.done (some (a.extract 0 (p-1)++b.extract 0 q++(o.push z).reverse),p-1,q,o.push z,g,ca,k))
 else if ca<7&&k<7 then pure (ForInStep.done (none,p-1,q,o.push z,g,ca,k))
 else pure (Wx (none,p-1,q,o.push z,g,ca,k))
noncomputable def hB(a b o:Array Keyed)(p q g ca cb:Nat):StateT SortSt Sem (ForInStep Ld):=do
 let z <- elem' b (q-1)
 if q-1 == 1 then pure (ForInStep.done (some (b.extract 0 (q-1)++a.extract 0 p++(o.push z).reverse),p,q-1,o.push z,g,ca,cb))
 else do
  let y <- elem' a (p-1)
  let r <- vm true y b 0 (q-1) (q-1-1)
  match r with
   |some m=>
    if q-1-m>0 then
     if m == 1 then pure (ForInStep.done (some (b.extract 0 m++a.extract 0 p++(o.push z++(b.extract m (q-1)).reverse).reverse),p,m,o.push z++(b.extract m (q-1)).reverse,g,ca,q-1-m))
     else if m == 0 then pure (ForInStep.done (some (a.extract 0 p++b.extract 0 m++(o.push z++(b.extract m (q-1)).reverse).reverse),p,m,o.push z++(b.extract m (q-1)).reverse,g,ca,q-1-m))
     else hA a b (o.push z++(b.extract m (q-1)).reverse) p m g ca (q-1-m)
    else hA a b (o.push z) p (q-1) g ca (q-1-m)
   |x=>pure (ForInStep.done (some (a.extract 0 p++b.extract 0 (q-1)++(o.push z).reverse),p,q-1,o.push z,g,ca,cb))
noncomputable def hC(a b o:Array Keyed)(p q g ca cb:Nat):StateT SortSt Sem (ForInStep Ld):=do
 yK g
 let z <- elem' b (q-1)
 let r <- vm false z a 0 p (p-1)
 match r with
  |some m=>
   if p-m>0 then
    if m == 0 then pure (ForInStep.done (some (a.extract 0 m++b.extract 0 q++(o++(a.extract m p).reverse).reverse),m,q,o++(a.extract m p).reverse,g,p-m,cb))
    else hB a b (o++(a.extract m p).reverse) m q g (p-m) cb
   else hB a b o p q g (p-m) cb
  |x=>pure (ForInStep.done (some (a.extract 0 p++b.extract 0 q++o.reverse),p,q,o,g,ca,cb))
def EH(κ:KeyKind)(a b:Array Keyed)(N:Nat)(st:SortSt)(r:ForInStep Ld)(st':SortSt):Prop:=(∃g',st'=setG st g')/\match r with
 |.done c=>(∃r z,c=(some r,z)/\Done κ (a.toList++b.toList) r.toList)\/∃o p q g ca cb,c=(none,p,q,o,g,ca,cb)/\IJ κ a b o p q/\N<=o.size
 |.yield c=>∃o p q g ca cb,c=(none,p,q,o,g,ca,cb)/\IJ κ a b o p q/\N<=o.size
theorem Nc{M:Model}{o:Array Keyed}{p q g ca k N:Nat}{st st':SortSt}(hs:∃g',st'=setG st g')(hp:1<=p)(hp2:p<=a.size)(hq:2<=q)(hq2:q<=b.size)
  (mj:MJa κ a b o p q) (hl:∀x∈b.toList.take q,le κ x (a[p-1]'(by lia))) (hN:N<=o.size):wpS M A E s (hA a b o p q g ca k) (EH κ a b N st) st':=by
 obtain⟨p,rfl⟩:∃p',p=p'+1:=⟨p-1,by lia⟩
 unfold hA;rw[Yg];rw[b9 (a:=a) (i:=p) (by lia)];refine wpS_bind (wpS_pure ?_);have mj2:=Ic (by lia) mj hl;by_cases h1:p=0
 ·rw[if_pos (by simpa using h1)];exact wpS_pure ⟨hs,.inl ⟨_,_,rfl,Aj mj2 h1⟩⟩
 ·rw[if_neg (by simpa using h1)];have ij:IJ κ a b (o.push (a[p]'(by lia))) p q:=⟨by lia,by lia,hq,hq2,mj2⟩
  split
  ·exact wpS_pure ⟨hs,.inr ⟨_,_,_,_,_,_,rfl,ij,by rw[V1];lia⟩⟩
  ·exact wpS_pure ⟨hs,⟨_,_,_,_,_,_,rfl,ij,by rw[V1];lia⟩⟩
theorem Nd{M:Model}(hL:kh M A E s κ kd)(ka:KeysOf κ a)(kb:KeysOf κ b)(sb:b.toList.Pairwise (le κ)){o:Array Keyed}{p q g ca cb N:Nat}{st st':SortSt}(hb:1<=b.size)(first:∀y∈a.toList,le κ (b[0]'(by lia)) y)(hd:kindOf st=kd)(hs:∃g',st'=setG st g')(hp:1<=p)(hp2:p<=a.size)(hq:2<=q)(hq2:q<=b.size)
  (mj:MJa κ a b o p q) (hl:∀x∈a.toList.take p,le κ x (b[q-1]'(by lia))) (hN:N<=o.size):wpS M A E s (hB a b o p q g ca cb) (EH κ a b N st) st':=by
 obtain⟨q,rfl⟩:∃q',q=q'+1:=⟨q-1,by lia⟩
 unfold hB;rw[Yg];rw[b9 (a:=b) (i:=q) (by lia)];refine wpS_bind (wpS_pure ?_);have mj2:=Nb (by lia) mj hl;by_cases h1:q=1
 ·rw[if_pos (by simpa using h1)];exact wpS_pure ⟨hs,.inl ⟨_,_,rfl,EG hb first mj2 h1⟩⟩
 rw[if_neg (by simpa using h1),b9 (a:=a) (i:=p-1) (by lia)];refine wpS_bind (wpS_pure ?_);obtain⟨g',rfl⟩:=hs;refine wpS_bind (tN (b:=0) (n:=q) (hint:=q-1) hL (bE ka (i:=p-1) (by lia)).1 kb (by lia) (by lia) (Bu kb sb (by lia)) (st:=setG st g') hd fun m hm h2 h3=>?_)
 try dsimp only
 have Uy:∀x∈a.toList.take p,le κ x (a[p-1]'(by omega)):=by
  have:=wA (κ:=κ) (x:=a) (p:=p-1) (by lia) (by rw[show p-1+1=p by lia];exact mj.sA)
  rwa [show p-1+1=p by lia]at this
 have le1:∀x∈a.toList.take p,∀y∈(b.extract m q).toList,le κ x y:=fun x hx y hy=>by obtain⟨n,hn,hn2,rfl⟩:=cy (x:=b) (i:=m) (k:=q-m) (by rw[show m+(q-m)=q by lia];exact hy);have:=h3 (m+n) (by lia) (by lia);unfold pass at this;rw[if_pos rfl,X0,(bE kb hn2).2]at this;exact le_trans (Uy x hx) this
 have le2:∀x∈b.toList.take m,le κ x (a[p-1]'(by lia)):=fun x hx=>by rw[<- gw]at hx;obtain⟨n,hn,hn2,rfl⟩:=cy (x:=b) (i:=0) (k:=m) (by rw[X0];exact hx);have:=h2 n hn;unfold pass at this;rw[if_pos rfl,(bE kb hn2).2]at this;exact V6 this
 by_cases hk0:q-m>0
 ·rw[if_pos hk0];have mj3:MJa κ a b (o.push (b[q]'(by lia))++(b.extract m q).reverse) p m:=by
   unfold MJa at mj2 ⊢;rw[VM,Xd,Xw,List.reverse_reverse];rw[Bt (z:=m) (p:=q) (by lia)]at mj2;exact MJ.Po mj2 le1
  by_cases h4:m=1
  ·rw[if_pos (by simpa using h4)];exact wpS_pure ⟨⟨_,rfl⟩,.inl ⟨_,_,rfl,EG hb first mj3 h4⟩⟩
  rw[if_neg (by simpa using h4)];by_cases h5:m=0
  ·rw[if_pos (by simpa using h5)];exact wpS_pure ⟨⟨_,rfl⟩,.inl ⟨_,_,rfl,Pq mj3 h5⟩⟩
  rw[if_neg (by simpa using h5)];exact Nc ⟨_,rfl⟩ hp hp2 (by lia) (by lia) mj3 le2 (by rw[XN,V1];lia)
 ·rw[if_neg hk0];have:m=q:=by lia
  subst this;exact Nc ⟨_,rfl⟩ hp hp2 (by lia) (by lia) mj2 le2 (by rw[V1];lia)
theorem R9{M:Model}(hL:kh M A E s κ kd)(ka:KeysOf κ a)(kb:KeysOf κ b)(sa:a.toList.Pairwise (le κ))(sb:b.toList.Pairwise (le κ)){o:Array Keyed}{p q g ca cb N:Nat}{st st':SortSt}(hb:1<=b.size)(first:∀y∈a.toList,le κ (b[0]'(by lia)) y)(hd:kindOf st=kd)(hs:∃g',st'=setG st g')
  (ij:IJ κ a b o p q) (hN:N<=o.size):wpS M A E s (hC a b o p q g ca cb) (EH κ a b N st) st':=by
 obtain⟨hp,hp2,hq,hq2,mj⟩:=ij;obtain⟨g',rfl⟩:=hs;unfold hC;refine wpS_bind ?_;unfold yK;refine wpS_modify ?_;rw[b9 (a:=b) (i:=q-1) (by lia)];refine wpS_bind (wpS_pure ?_);refine wpS_bind (tN (b:=0) (n:=p) (hint:=p-1) hL (bE kb (i:=q-1) (by lia)).1 ka (by lia) (by lia) (Bu ka sa (by lia)) (st:=setG st g) hd fun m hm h2 h3=>?_)
 try dsimp only
 have Uz:∀x∈b.toList.take q,le κ x (b[q-1]'(by omega)):=by
  have:=wA (κ:=κ) (x:=b) (p:=q-1) (by lia) (by rw[show q-1+1=q by lia];exact mj.sB)
  rwa [show q-1+1=q by lia]at this
 have le1:∀x∈b.toList.take q,∀y∈(a.extract m p).toList,le κ x y:=fun x hx y hy=>by
  obtain⟨n,hn,hn2,rfl⟩:=cy (x:=a) (i:=m) (k:=p-m) (by rw[show m+(p-m)=p by lia];exact hy);have:=h3 (m+n) (by lia) (by lia);unfold pass at this;rw[if_neg (by decide),X0,(bE ka hn2).2]at this;have jB:κ.blt (kp κ (b[q-1]'(by lia))) (kp κ a[m+n])=true:=by simpa using this
  exact le_trans (Uz x hx) (V6 jB)
 have le2:∀x∈a.toList.take m,le κ x (b[q-1]'(by lia)):=fun x hx=>by
  rw[<- gw]at hx;obtain⟨n,hn,hn2,rfl⟩:=cy (x:=a) (i:=0) (k:=m) (by rw[X0];exact hx);have:=h2 n hn;unfold pass at this;rw[if_neg (by decide),(bE ka hn2).2]at this;have jB:κ.blt (kp κ (b[q-1]'(by lia))) (kp κ a[0+n])=false:=by simpa using this
  exact jB
 by_cases hk0:p-m>0
 ·rw[if_pos hk0];have mj3:MJa κ a b (o++(a.extract m p).reverse) m q:=by
   unfold MJa at mj ⊢;rw[VM,Xd,Xw,List.reverse_reverse];rw[Bt (z:=m) (p:=p) (by lia)]at mj;exact MJ.Pp mj le1
  by_cases h5:m=0
  ·rw[if_pos (by simpa using h5)];exact wpS_pure ⟨⟨_,rfl⟩,.inl ⟨_,_,rfl,Aj mj3 h5⟩⟩
  rw[if_neg (by simpa using h5)];exact Nd hL ka kb sb hb first hd ⟨_,rfl⟩ (by lia) (by lia) hq hq2 mj3 le2 (by rw[XN];lia)
 ·rw[if_neg hk0];have:m=p:=by lia
  subst this;exact Nd hL ka kb sb hb first hd ⟨_,rfl⟩ hp hp2 hq hq2 mj le2 hN
theorem Pr(hL:kh (model prog w) A E s κ kd)(ka:KeysOf κ a)(kb:KeysOf κ b)(sa:a.toList.Pairwise (le κ))(sb:b.toList.Pairwise (le κ))(ha:1<=a.size)(hb:1<=b.size)
  (first:∀y∈a.toList,le κ (b[0]'(by lia)) y) (last:∀y∈b.toList,le κ y (a[a.size-1]'(by lia))) {st:SortSt} (hd:kindOf st=kd) {Q:Array Keyed->SortSt->Prop}
  (h:∀r g,Done κ (a.toList++b.toList) r.toList->Q r (setG st g)):wpS (model prog w) A E s (Pe a b) Q st:=by
 rw[Pn];refine wpS_bind (wpS_lift (wpAny_rule ⟨rfl,?_⟩))
 try dsimp only
 rw[b9 (a:=a) (i:=a.size-1) (by lia)];refine wpS_bind (wpS_pure ?_)
 try dsimp only
 have m0:MJa κ a b #[] (a.size-1+1) b.size:=⟨by simp,by simp,by simp,by rw [show a.size-1+1=a.size by lia,WO (by simp)];exact sa,by rw [WO (by simp)];exact sb,by rw[show a.size-1+1=a.size by lia,WO (by simp),WO (by simp)];simp⟩
 have m1:MJa κ a b #[a[a.size-1]'(by lia)] (a.size-1) b.size:=Ic (o:=#[]) (by lia) m0 fun x hx=>last x (X3 hx);have same:setG st (gallopOf st)=st:=rfl;by_cases ha1:a.size-1=0
 ·rw[if_pos (by simpa using ha1)];exact wpS_pure (same▸h _ (gallopOf st) (Aj m1 ha1))
 rw[if_neg (by simpa using ha1)];by_cases hb1:b.size=1
 ·rw[if_pos (by simpa using hb1)];exact wpS_pure (same▸h _ (gallopOf st) (EG hb first m1 hb1))
 rw[if_neg (by simpa using hb1)];refine wpS_bind (wpS_get ?_)
 try dsimp only
 have len:∀{o:Array Keyed} {p q:Nat},IJ κ a b o p q->o.size<a.size+b.size:=fun {o p q} ⟨h1,h2,h3,h4,h5⟩=>by
  have:=h5.pm.length_eq;simp only[Vn,Vu,V8,List.length_reverse]at this
  lia
 refine wpS_bind (wpS_mono (wpS_forRange (I:=fun x c st'=>∃ o p q g,c=(none,p,q,o,g)∧(∃ g',st'=setG st g')∧IJ κ a b o p q∧x+1≤o.size)
  (Q:=fun c st'=>∃r z,c=(some r,z)/\(∃g',st'=setG st g')/\Done κ (a.toList++b.toList) r.toList) ?st1 ?fi1 ⟨_,a.size-1,b.size,_,rfl,⟨gallopOf st,rfl⟩,⟨by lia,by lia,by lia,by lia,m1⟩,by simp⟩) ?po1)
 case fi1=>
  rintro c st' ⟨o,p,q,g,rfl,_,ij,hsz⟩;have:=len ij
  lia
 case po1=>rintro c st' ⟨r,z,rfl,⟨g',rfl⟩,hdn⟩;exact wpS_pure (h r g' hdn)
 case st1=>
  rintro x c st' _ hx ⟨o,p,q,g,rfl,⟨g',rfl⟩,ij,hsz⟩
  try dsimp only
  refine wpS_bind (wpS_mono (wpS_forRange (I:=fun y c st''=>∃ o' p' q' ca cb,c=(none,p',q',o',ca,cb)∧st''=setG st g'∧IJ κ a b o' p' q'∧o.size+y≤o'.size)
   (Q:=fun c st''=>st''=setG st g'/\((∃r z,c=(some r,z)/\Done κ (a.toList++b.toList) r.toList)\/∃o' p' q' ca cb,c=(none,p',q',o',ca,cb)/\IJ κ a b o' p' q'/\o.size+1<=o'.size)) ?st2 ?fi2 ⟨o,p,q,0,0,rfl,rfl,ij,by lia⟩) ?po2)
  case fi2=>rintro c st'' ⟨o',p',q',ca,cb,rfl,rfl,ij',hs'⟩;exact⟨rfl,.inr ⟨o',p',q',ca,cb,rfl,ij',by lia⟩⟩
  case st2=>
   rintro y c st'' _ hy ⟨o',p',q',ca,cb,rfl,rfl,⟨hp1,hp2,hq1,hq2,mj⟩,hs'⟩
   try dsimp only
   obtain⟨p',rfl⟩:∃z,p'=z+1:=⟨p'-1,by lia⟩
   obtain⟨q',rfl⟩:∃z,q'=z+1:=⟨q'-1,by lia⟩
   simp only[Yg];rw[b9 (a:=b) (i:=q') (by lia),b9 (a:=a) (i:=p') (by lia)];refine wpS_bind (wpS_pure (wpS_bind (wpS_pure ?_)));obtain⟨kb1,_⟩:=bE kb (i:=q') (by lia);obtain⟨ka1,_⟩:=bE ka (i:=p') (by lia);refine wpS_bind (hL _ _ _ _ _ _ kb1 ka1 hd ?_)
   try dsimp only
   cases hw:κ.blt (kp κ (b[q']'(by lia))) (kp κ (a[p']'(by lia)))
   case true=>
    rw[if_pos rfl];refine wpS_bind (wpS_pure ?_)
    try dsimp only
    have mj2:=Ic (by lia) mj fun x hx=>le_trans (wA (by lia) mj.sB x hx) (V6 hw);by_cases hpb:p'=0
    ·rw[if_pos (by simpa using hpb)];exact wpS_pure ⟨rfl,.inl ⟨_,_,rfl,Aj mj2 hpb⟩⟩
    rw[if_neg (by simpa using hpb)];by_cases hg:ca+1≥g
    ·rw[if_pos hg];exact wpS_pure ⟨rfl,.inr ⟨_,_,_,_,_,rfl,⟨by lia,by lia,by lia,by lia,mj2⟩,by rw[V1];lia⟩⟩
    ·rw[if_neg hg];exact wpS_pure ⟨_,_,_,_,_,rfl,rfl,⟨by lia,by lia,by lia,by lia,mj2⟩,by rw[V1];lia⟩
   case false=>
    rw[if_neg (by decide)];refine wpS_bind (wpS_pure ?_)
    try dsimp only
    have mj2:=Nb (by lia) mj fun x hx=>le_trans (wA (by lia) mj.sA x hx) hw;by_cases hqb:q'=1
    ·rw[if_pos (by simpa using hqb)];exact wpS_pure ⟨rfl,.inl ⟨_,_,rfl,EG hb first mj2 hqb⟩⟩
    rw[if_neg (by simpa using hqb)];by_cases hg:cb+1≥g
    ·rw[if_pos hg];exact wpS_pure ⟨rfl,.inr ⟨_,_,_,_,_,rfl,⟨by lia,by lia,by lia,by lia,mj2⟩,by rw[V1];lia⟩⟩
    ·rw[if_neg hg];exact wpS_pure ⟨_,_,_,_,_,rfl,rfl,⟨by lia,by lia,by lia,by lia,mj2⟩,by rw[V1];lia⟩
  case po2=>
   rintro c st'' ⟨rfl,⟨r,z,rfl,hdn⟩ | ⟨o',p',q',ca,cb,rfl,ij',hs'⟩⟩
   ·try dsimp only
    exact wpS_pure ⟨r,_,rfl,⟨_,rfl⟩,hdn⟩
   try dsimp only
   refine wpS_bind (wpS_lift (wpAny_rule ⟨rfl,?_⟩));refine wpS_bind (wpS_mono (wpS_forRange (I:=fun y c st''=>∃ o2 p2 q2 g2 ca cb,c=(none,p2,q2,o2,g2,ca,cb)∧(∃ g',st''=setG st g')∧IJ κ a b o2 p2 q2∧o.size+1≤o2.size)
    (Q:=fun c st''=>(∃g',st''=setG st g')/\((∃r z,c=(some r,z)/\Done κ (a.toList++b.toList) r.toList)\/∃o2 p2 q2 g2 ca cb,c=(none,p2,q2,o2,g2,ca,cb)/\IJ κ a b o2 p2 q2/\o.size+1<=o2.size)) ?st3 ?fi3 ⟨o',p',q',_,_,_,rfl,⟨_,rfl⟩,ij',hs'⟩) ?po3)
   case fi3=>rintro c st'' ⟨o2,p2,q2,g2,ca,cb,rfl,hg,ij2,hs2⟩;exact⟨hg,.inr ⟨o2,p2,q2,g2,ca,cb,rfl,ij2,hs2⟩⟩
   case po3=>
    rintro c st'' ⟨⟨g3,rfl⟩,⟨r,z,rfl,hdn⟩ | ⟨o2,p2,q2,g2,ca,cb,rfl,ij2,hs2⟩⟩
    ·try dsimp only
     exact wpS_pure ⟨r,_,rfl,⟨_,rfl⟩,hdn⟩
    ·try dsimp only
     refine wpS_bind ?_;unfold yK;exact wpS_modify (wpS_pure ⟨o2,p2,q2,_,rfl,⟨_,rfl⟩,ij2,by lia⟩)
   case st3=>
    rintro y c st'' _ hy ⟨o2,p2,q2,g2,ca,cb,rfl,⟨g3,rfl⟩,ij2,hs2⟩;show wpS _ _ _ _ (if g2>1 then hC a b o2 p2 q2 (g2-1) ca cb else hC a b o2 p2 q2 g2 ca cb) _ _;have Qi:∀g,wpS (model prog w) A E s (hC a b o2 p2 q2 g ca cb) (EH κ a b (o.size+1) st) (setG st g3):=fun g=>R9 hL ka kb sa sb hb first hd ⟨_,rfl⟩ ij2 hs2
    split
    all_goals
     refine wpS_mono (Qi _) fun r st' hG=>?_;cases r with
     |done c=>exact hG
     |yield c=>obtain⟨hg,o,i,j,g,ca,cb,e,im,hz⟩:=hG;exact⟨o,i,j,g,ca,cb,e,hg,im,hz⟩
end
end
end Ts
namespace Ts
open PySem PyProof.Rows
variable{A:Around}{E:Value->Shared->Prop}{s:Shared}{κ:KeyKind}{kd:SortKind}{a₀:Array Keyed}{prog:Program}{w:World}
theorem ext_get{xs:Array Keyed}{i j n:Nat}(hj:j<=xs.size)(h:n<(xs.extract i j).toList.length):∃hn:i+n<xs.size,i+n<j/\(xs.extract i j).toList[n]=xs[i+n]:=by rw[Vu,Xl]at h;refine⟨by lia,by lia,?_⟩;simp
theorem kj{xs:Array Keyed}(hk:KeysOf κ xs){i j:Nat}(hj:j<=xs.size):Seg κ xs i j↔(xs.extract i j).toList.Pairwise (le κ):=by
 rw[List.pairwise_iff_getElem];constructor
 ·intro h p q hp hq hpq;obtain⟨p1,p2,ep⟩:=ext_get hj hp;obtain⟨q1,q2,eq⟩:=ext_get hj hq;rw[ep,eq];have:=h (i+p) (i+q) (by lia) (by lia) q2;rw[(bE hk p1).2,(bE hk q1).2]at this;exact this
 ·intro h p q h1 h2 h3;by_cases e:p=q
  ·subst e;exact Wz _
  have hl:(xs.extract i j).toList.length=j-i:=by rw[Vu,Xl];lia
  obtain⟨p1,p2,ep⟩:=ext_get (i:=i) (n:=p-i) hj (by lia);obtain⟨q1,q2,eq⟩:=ext_get (i:=i) (n:=q-i) hj (by lia);have:=h (p-i) (q-i) (by lia) (by lia) (by lia);rw[ep,eq]at this;have e1:KK κ xs p=kp κ (xs[i+(p-i)]):=(congrArg (KK κ xs) (show p=i+(p-i) by lia)).trans (bE hk p1).2;have e2:KK κ xs q=kp κ (xs[i+(q-i)]):=(congrArg (KK κ xs) (show q=i+(q-i) by lia)).trans (bE hk q1).2;rw[e1,e2];exact this
noncomputable def wr(m:List Keyed)(n b:Nat)(xs:Array Keyed):Array Keyed:=(m.zipIdx n).foldl (fun a (p,j)=>a.setIfInBounds (b+j) p) xs
theorem EI:∀(m:List Keyed) (n b:Nat) (xs:Array Keyed),(wr m n b xs).size=xs.size
 |[],n,b,xs=>rfl
 |p::m,n,b,xs=>by show (wr m (n+1) b (xs.setIfInBounds (b+n) p)).size=_;rw[EI m];simp
theorem EJ:∀(m:List Keyed) (n b:Nat) (xs:Array Keyed),b+n+m.length<=xs.size->(wr m n b xs).toList=xs.toList.take (b+n)++m++xs.toList.drop (b+n+m.length)
 |[],n,b,xs,h=>by show xs.toList=_;simp
 |p::m,n,b,xs,h=>by
  rw[VX]at h;show (wr m (n+1) b (xs.setIfInBounds (b+n) p)).toList=_;rw[EJ m (n+1) b _ (by simp;lia),Array.toList_setIfInBounds];rw[show b+(n+1)=b+n+1 by lia,List.take_succ,Vz (by simp;lia),List.take_set_of_le (by lia),List.drop_set_of_lt (by lia)];simp
  lia
theorem Pu(xs:Array Keyed){i j:Nat}(h:i<=j)(hj:j<=xs.size):xs.toList=xs.toList.take i++((xs.extract i j).toList++xs.toList.drop j):=by
 have h1:=W5 i xs.toList;have h2:xs.toList.drop i=(xs.extract i j).toList++xs.toList.drop j:=by
  have:=xr (a:=xs) (i:=i) (k:=j-i)
  rwa [show i+(j-i)=j by lia]at this
 rw[<- h2,h1]
theorem rD(xs:Array Keyed){i j k:Nat}(h:i<=j)(h2:j<=k)(hk:k<=xs.size):(xs.extract i k).toList=(xs.extract i j).toList++(xs.extract j k).toList:=by simp only[WH,Wj];have:=W5 (j-i) ((xs.toList.drop i).take (k-i));rw[List.take_take,List.drop_take,List.drop_drop]at this;rw[show min (j-i) (k-i)=j-i by lia,show k-i-(j-i)=k-j by lia,show i+(j-i)=j by lia]at this;exact this.symm
theorem R_(i:Nat):mergeAt' i=(do
  let st <- get
  let (some (u,m,c),some (v,n,_)):=((pendingOf st)[i]?,(pendingOf st)[i+1]?)
   |unsupported "internal:list.sort.pending"
  set (setPending st (((pendingOf st).setIfInBounds i (u,m+n,c)).eraseIdxIfInBounds (i+1)))
  let some k <- vm false (<- elem' (arrOf st) v) (arrOf st) u m 0
   |return false
  let (u,m):=(u+k,m-k)
  if m == 0 then return true
  let some n <- vm true (<- elem' (arrOf st) (u+m-1)) (arrOf st) v n (n-1)
   |return false
  if n == 0 then return true
  let x:=(arrOf st).extract u v
  let y:=(arrOf st).extract v (v+n)
  let z <- if m<=n then Pd x y
   else Pe x y
  modify fun st=>setArr st (z.toList.zipIdx.foldl (fun a (p,j)=>a.setIfInBounds (u+j) p) (arrOf st))
  return (failedOf (<- get)).isNone):=rfl
theorem Bv{xs:Array Keyed}(hk:KeysOf κ xs)(i j:Nat):KeysOf κ (xs.extract i j):=fun p hp=>hk p (by rw[WH,Wj]at hp;exact List.mem_of_mem_drop (X3 hp))
theorem Sa(hL:kh (model prog w) A E s κ kd)(h0:KeysOf κ a₀){st:SortSt}(hB:SB kd a₀ st){i u m c n c':Nat}(hp1:(pendingOf st)[i]?=some (u,m,c))(hp2:(pendingOf st)[i+1]?=some (u+m,n,c'))(hm:1<=m)(hn:1<=n)(hsz:u+m+n<=a₀.size)
  (s1:Seg κ (arrOf st) u (u+m)) (s2:Seg κ (arrOf st) (u+m) (u+m+n)) {Q:Bool->SortSt->Prop}
  (h:∀xs g,xs.Perm (arrOf st)->Seg κ xs u (u+m+n)->Out (arrOf st) xs u (u+m+n)->Q true (setG (setArr (setPending st (((pendingOf st).setIfInBounds i (u,m+n,c)).eraseIdxIfInBounds (i+1))) xs) g)):wpS (model prog w) A E s (mergeAt' i) Q st:=by
 have hk:=hB.keys h0;have hA:(arrOf st).size=a₀.size:=hB.size;rw[R_];refine wpS_bind (wpS_get ?_)
 try dsimp only
 rw[hp1,hp2]
 try dsimp only
 refine wpS_bind ?_;show wpS _ _ _ _ (set _) _ _
 generalize hP:((pendingOf st).setIfInBounds i (u,m+n,c)).eraseIdxIfInBounds (i+1)=P at h ⊢
 refine (show ∀ {R:PUnit→SortSt→Prop},R ⟨⟩ (setPending st P)→wpS (model prog w) A E s (set (setPending st P):StateT SortSt Sem PUnit) R st from fun {R} hR=>by unfold wpS;exact wpAny_pure ⟨rfl,hR⟩) ?_
 generalize hxs:arrOf st=xs at *
 rw[b9 (a:=xs) (i:=u+m) (by lia)];refine wpS_bind (wpS_pure ?_);refine wpS_bind (tN (b:=u) (n:=m) (hint:=0) hL (bE hk (i:=u+m) (by lia)).1 hk (by lia) (by lia) s1 (st:=setPending st P) hB.kind fun k hkm h1 h2=>?_)
 try dsimp only
 have low:∀q,q<k->κ.kle (KK κ xs (u+q)) (KK κ xs (u+m)):=fun q hq=>by
  have:=h1 q hq;unfold pass at this;rw[if_neg (by decide),<- (bE hk (i:=u+m) (by lia)).2]at this;have jB:κ.blt (KK κ xs (u+m)) (KK κ xs (u+q))=false:=by simpa using this
  exact jB
 by_cases hk0:m-k=0
 ·rw[if_pos (by simpa using hk0)];have km:k=m:=by lia
  subst km;refine wpS_pure ?_;have:=h xs (gallopOf st) (Array.Perm.refl _) (fun p q hp hpq hq=>?_) (Out.refl _ _ _)
  ·rw[<- hxs]at this;exact this
  ·by_cases hq1:q<u+k
   ·exact s1 p q hp hpq hq1
   ·by_cases hp1:u+k<=p
    ·exact s2 p q hp1 hpq hq
    ·have:=low (p-u) (by lia);rw[show u+(p-u)=p by lia]at this;exact WC this (s2 _ q (by lia) (by lia) hq)
 rw[if_neg (by simpa using hk0)];rw[b9 (a:=xs) (i:=u+k+(m-k)-1) (by lia)];refine wpS_bind (wpS_pure ?_);refine wpS_bind (tN (b:=u+m) (n:=n) (hint:=n-1) hL (bE hk (i:=u+k+(m-k)-1) (by lia)).1 hk (by lia) (by lia) s2 (st:=setPending st P) hB.kind fun n' hn' h3 h4=>?_)
 try dsimp only
 have hi:∀q,n'<=q->q<n->κ.kle (KK κ xs (u+m-1)) (KK κ xs (u+m+q)):=fun q hq hq2=>by have:=h4 q hq hq2;unfold pass at this;rw[if_pos rfl,<- (bE hk (i:=u+k+(m-k)-1) (by lia)).2]at this;rw[show u+k+(m-k)-1=u+m-1 by lia]at this;exact this
 have lo2:∀q,q<n'->κ.kle (KK κ xs (u+m+q)) (KK κ xs (u+m-1)):=fun q hq=>by have:=h3 q hq;unfold pass at this;rw[if_pos rfl,<- (bE hk (i:=u+k+(m-k)-1) (by lia)).2]at this;rw[show u+k+(m-k)-1=u+m-1 by lia]at this;exact V6 this
 by_cases hn0:n'=0
 ·rw[if_pos (by simpa using hn0)];refine wpS_pure ?_;have:=h xs (gallopOf st) (Array.Perm.refl _) (fun p q hp hpq hq=>?_) (Out.refl _ _ _)
  ·rw[<- hxs]at this;exact this
  ·by_cases hq1:q<u+m
   ·exact s1 p q hp hpq hq1
   ·by_cases hp1:u+m<=p
    ·exact s2 p q hp1 hpq hq
    ·have:=hi (q-(u+m)) (by lia) (by lia);rw[show u+m+(q-(u+m))=q by lia]at this;exact WC (s1 p (u+m-1) hp (by lia) (by lia)) this
 rw[if_neg (by simpa using hn0)];have kx:=Bv hk (u+k) (u+m);have ky:=Bv hk (u+m) (u+m+n');have sx:(xs.extract (u+k) (u+m)).toList.Pairwise (le κ):=(kj hk (by lia)).mp fun p q a b c=>s1 p q (by lia) b c;have sy:(xs.extract (u+m) (u+m+n')).toList.Pairwise (le κ):=(kj hk (by lia)).mp fun p q a b c=>s2 p q a b (by lia);have zx:(xs.extract (u+k) (u+m)).size=m-k:=by rw[Xl];lia
 have zy:(xs.extract (u+m) (u+m+n')).size=n':=by rw[Xl];lia
 have y0:(xs.extract (u+m) (u+m+n'))[0]'(by lia)=xs[u+m]'(by omega):=by simp
 have xl:(xs.extract (u+k) (u+m))[(xs.extract (u+k) (u+m)).size-1]'(by lia)=xs[u+m-1]'(by lia):=by
  simp only[Array.getElem_extract]
  congr 1
  rw[zx];lia
 have first:∀y∈(xs.extract (u+k) (u+m)).toList,le κ ((xs.extract (u+m) (u+m+n'))[0]'(by lia)) y:=fun y hy=>by
  obtain⟨q,hq,hq2,rfl⟩:=cy (x:=xs) (i:=u+k) (k:=m-k) (by rw[show u+k+(m-k)=u+m by lia];exact hy);rw[y0];have:=h2 (k+q) (by lia) (by lia);unfold pass at this;rw[if_neg (by decide)]at this;have jB:κ.blt (kp κ (xs[u+m]'(by lia))) (KK κ xs (u+(k+q)))=true:=by simpa using this
  rw[show u+(k+q)=u+k+q by lia,(bE hk hq2).2]at jB;exact V6 jB
 have last:∀y∈(xs.extract (u+m) (u+m+n')).toList,le κ y ((xs.extract (u+k) (u+m))[(xs.extract (u+k) (u+m)).size-1]'(by lia)):=fun y hy=>by obtain⟨q,hq,hq2,rfl⟩:=cy (x:=xs) (i:=u+m) (k:=n') hy;rw[xl];have:=lo2 q hq;rw[(bE hk hq2).2,(bE hk (i:=u+m-1) (by lia)).2]at this;exact this
 have Qi:∀(r:Array Keyed) (g:Nat),Done κ ((xs.extract (u+k) (u+m)).toList++(xs.extract (u+m) (u+m+n')).toList) r.toList ->
   wpS (model prog w) A E s ((modify fun st=>setArr st (r.toList.zipIdx.foldl (fun a (p,j)=>a.setIfInBounds (u+k+j) p) (arrOf st))) >>= fun _=>get >>= fun st=>pure (failedOf st).isNone) Q (setG (setPending st P) g):=fun r g ⟨rp,rs⟩=>by
  refine wpS_bind (wpS_modify ?_);refine wpS_bind (wpS_get ?_);refine wpS_pure ?_;have rl:r.toList.length=m-k+n':=by have:=rp.length_eq;simp only[Vn,Vu,zx,zy]at this ⊢;exact this
  have rl2:r.size=m-k+n':=by rw[<- Vu];exact rl
  have wl:(wr r.toList 0 (u+k) xs).toList=xs.toList.take (u+k)++(r.toList++xs.toList.drop (u+m+n')):=by rw[EJ r.toList 0 (u+k) xs (by lia),Nat.add_zero,rl,show u+k+(m-k+n')=u+m+n' by lia,Wa]
  have Nf:(wr r.toList 0 (u+k) xs).Perm xs:=by
   rw[W7,wl];have e:=Pu xs (i:=u+k) (j:=u+m+n') (by lia) (by lia);rw[rD xs (i:=u+k) (j:=u+m) (k:=u+m+n') (by lia) (by lia) (by lia)]at e
   conv=>rhs;rw[e]
   exact Ye.append_left _ (Ye.append_right _ rp)
  have wz:(wr r.toList 0 (u+k) xs).size=xs.size:=EI _ _ _ _;have wk:KeysOf κ (wr r.toList 0 (u+k) xs):=fun p hp=>hk p ((W7.mp Nf).mem_iff.mp hp);have Sb:Out xs (wr r.toList 0 (u+k) xs) (u+k) (u+m+n'):=fun q hq=>by
   rw[<- V4,<- V4,wl];rcases hq with hq | hq
   ·rw[Vi (by simp;lia),WV hq]
   ·rw[Vs (by simp;lia),Vs (by simp;lia),List.getElem?_drop]
    congr 1
    simp
    lia
  have hfl:(failedOf (setArr (setG (setPending st P) g) (wr r.toList 0 (u+k) xs))).isNone=true:=by show (failedOf st).isNone=true;rw[hB.failed];rfl
  have key:Q true (setG (setArr (setPending st P) (wr r.toList 0 (u+k) xs)) g):=by
   refine h _ g Nf ?_ (Sb.mono (by lia) (by lia));rw[kj wk (by lia)];rw[rD _ (i:=u) (j:=u+k) (k:=u+m+n) (by lia) (by lia) (by lia),rD _ (i:=u+k) (j:=u+m+n') (k:=u+m+n) (by lia) (by lia) (by lia)];have part:∀i j,(j<=u+k\/u+m+n'<=i)->j<=xs.size->((wr r.toList 0 (u+k) xs).extract i j).toList=(xs.extract i j).toList:=fun i j hij hj=>by
    apply W9;intro q;by_cases hq:q<j-i
    ·rw[V4,V4,Array.getElem?_extract,Array.getElem?_extract,wz];split
     ·exact Sb _ (by lia)
     ·rfl
    ·rw[VJ (by simp;lia),VJ (by simp;lia)]
   have mid:((wr r.toList 0 (u+k) xs).extract (u+k) (u+m+n')).toList=r.toList:=by rw[WH,Wj,wl,List.drop_append_of_le_length (by simp;lia),List.drop_eq_nil_of_le (by simp<;>lia),WW,List.take_append_of_le_length (by lia),WO (by lia)]
   rw[part u (u+k) (.inl (Nat.le_refl _)) (by lia),part (u+m+n') (u+m+n) (.inr (Nat.le_refl _)) (by lia),mid];have F:=(kj hk (i:=u) (j:=u+k) (by lia)).mp fun p q a b c=>s1 p q a b (by lia);have L:=(kj hk (i:=u+m+n') (j:=u+m+n) (by lia)).mp fun p q a b c=>s2 p q (by lia) b c;have fx:∀x∈(xs.extract u (u+k)).toList,∀y,(y∈(xs.extract (u+k) (u+m)).toList\/y∈(xs.extract (u+m) (u+m+n)).toList)->le κ x y:=fun x hx y hy=>by
    obtain⟨p,hp,hp2,rfl⟩:=cy (x:=xs) (i:=u) (k:=k) hx;have t1:=low p hp;rw[(bE hk hp2).2]at t1;rcases hy with hy | hy
    ·obtain⟨q,hq,hq2,rfl⟩:=cy (x:=xs) (i:=u+k) (k:=m-k) (by rw[show u+k+(m-k)=u+m by lia];exact hy);have:=s1 (u+p) (u+k+q) (by lia) (by lia) (by lia);rw[(bE hk hp2).2,(bE hk hq2).2]at this;exact this
    ·obtain⟨q,hq,hq2,rfl⟩:=cy (x:=xs) (i:=u+m) (k:=n) hy;have t2:=s2 (u+m) (u+m+q) (by lia) (by lia) (by lia);rw[(bE hk hq2).2]at t2;exact WC t1 t2
   have UA:∀y∈(xs.extract (u+m) (u+m+n')).toList,y∈(xs.extract (u+m) (u+m+n)).toList:=fun y hy=>by rw[rD xs (i:=u+m) (j:=u+m+n') (k:=u+m+n) (by lia) (by lia) (by lia)];exact VA _ hy
   have UB:∀y∈(xs.extract (u+m+n') (u+m+n)).toList,y∈(xs.extract (u+m) (u+m+n)).toList:=fun y hy=>by rw[rD xs (i:=u+m) (j:=u+m+n') (k:=u+m+n) (by lia) (by lia) (by lia)];exact VB _ hy
   refine VU.mpr ⟨F,VU.mpr ⟨rs,L,fun x hx y hy=>?_⟩,fun x hx y hy=>?_⟩
   ·rcases Vt.mp (rp.mem_iff.mp hx) with hx | hx
    ·obtain⟨p,hp,hp2,rfl⟩:=cy (x:=xs) (i:=u+k) (k:=m-k) (by rw[show u+k+(m-k)=u+m by lia];exact hx);obtain⟨q,hq,hq2,rfl⟩:=cy (x:=xs) (i:=u+m+n') (k:=n-n') (by rw[show u+m+n'+(n-n')=u+m+n by lia];exact hy);have t1:=s1 (u+k+p) (u+m-1) (by lia) (by lia) (by lia);have t2:=hi (n'+q) (by lia) (by lia);rw[show u+m+(n'+q)=u+m+n'+q by lia,(bE hk hq2).2]at t2;rw[(bE hk hp2).2]at t1;exact WC t1 t2
    ·obtain⟨p,hp,hp2,rfl⟩:=cy (x:=xs) (i:=u+m) (k:=n') hx;obtain⟨q,hq,hq2,rfl⟩:=cy (x:=xs) (i:=u+m+n') (k:=n-n') (by rw[show u+m+n'+(n-n')=u+m+n by lia];exact hy);have:=s2 (u+m+p) (u+m+n'+q) (by lia) (by lia) (by lia);rw[(bE hk hp2).2,(bE hk hq2).2]at this;exact this
   ·rcases Vt.mp hy with hy | hy
    ·rcases Vt.mp (rp.mem_iff.mp hy) with hy | hy
     ·exact fx x hx y (.inl hy)
     ·exact fx x hx y (.inr (UA y hy))
    ·exact fx x hx y (.inr (UB y hy))
  have goal:Q (failedOf (setArr (setG (setPending st P) g) (wr r.toList 0 (u+k) xs))).isNone (setArr (setG (setPending st P) g) (wr r.toList 0 (u+k) xs)):=by rw[hfl];exact key
  have UC:arrOf (setG (setPending st P) g)=xs:=hxs;rw[<- UC]at goal;exact goal
 by_cases hmn:m-k<=n'
 ·rw[if_pos hmn];exact wpS_bind (Pk hL kx ky sx sy (by lia) (by lia) first last (st:=setPending st P) hB.kind Qi)
 ·rw[if_neg hmn];exact wpS_bind (Pr hL kx ky sx sy (by lia) (by lia) first last (st:=setPending st P) hB.kind Qi)
end Ts
namespace Ts
open PySem PyProof.Rows
variable{A:Around}{E:Value->Shared->Prop}{s:Shared}{κ:KeyKind}{kd:SortKind}{a₀:Array Keyed}{prog:Program}{w:World}
noncomputable abbrev Run:=Nat×Nat×Nat
def Cov:List Run->Nat->Nat->Prop
 |[],i,j=>i=j
 |r::l,i,j=>r.1=i/\1<=r.2.1/\Cov l (i+r.2.1) j
theorem Cov.le:∀{l:List Run} {i j:Nat},Cov l i j->i+l.length<=j
 |[],i,j,h=>by cases h;simp
 |r::l,i,j,⟨h1,h2,h3⟩=>by have:=h3.le;rw[VX];lia
theorem Cov.app:∀{l m:List Run} {i j:Nat},Cov (l++m) i j↔∃k,Cov l i k/\Cov m k j
 |[],m,i,j=>⟨fun h=>⟨i,rfl,h⟩,fun⟨k,h1,h2⟩=>by cases h1;exact h2⟩
 |r::l,m,i,j=>by
  constructor
  ·rintro⟨h1,h2,h3⟩;obtain⟨k,h4,h5⟩:=Cov.app.mp h3;exact⟨k,⟨h1,h2,h4⟩,h5⟩
  ·rintro⟨k,⟨h1,h2,h4⟩,h5⟩;exact⟨h1,h2,Cov.app.mpr ⟨k,h4,h5⟩⟩
theorem Cov.bounds:∀{l:List Run} {i j:Nat},Cov l i j->∀r∈l,i<=r.1/\r.1+r.2.1<=j
 |[],i,j,h,r,hr=>by cases hr
 |q::l,i,j,⟨h1,h2,h3⟩,r,hr=>by
  rcases Vq.mp hr with rfl | hr
  ·have:=h3.le;lia
  ·have:=h3.bounds r hr;lia
def Pw(κ:KeyKind)(xs:Array Keyed)(l:List Run):Prop:=∀r∈l,Seg κ xs r.1 (r.1+r.2.1)
structure SP(κ:KeyKind)(kd:SortKind)(a₀:Array Keyed)(st:SortSt)(P:List Run)(lo:Nat):Prop where
 sb:SB kd a₀ st
 pd:(pendingOf st).toList=P
 cov:Cov P 0 lo
 sg:Pw κ (arrOf st) P
 le:lo<=a₀.size
theorem xu(hL:kh (model prog w) A E s κ kd)(h0:KeysOf κ a₀){st:SortSt}{L1 L2:List Run}{r1 r2:Run}{lo:Nat}(h:SP κ kd a₀ st (L1++r1::r2::L2) lo){Q:Bool->SortSt->Prop}
  (q:∀st',SP κ kd a₀ st' (L1++(r1.1,r1.2.1+r2.2.1,r1.2.2)::L2) lo->(∀i j,lo<=i->Seg κ (arrOf st) i j->Seg κ (arrOf st') i j)->Q true st'):wpS (model prog w) A E s (mergeAt' L1.length) Q st:=by
 obtain⟨k,c1,c2,c3,c4⟩:=Cov.app.mp h.cov;obtain⟨c5,c6,c7⟩:=c4;obtain⟨u,m,c⟩:=r1;obtain⟨v,n,c'⟩:=r2;dsimp only at c2 c3 c5 c6 c7 q;subst c2;subst c5;have hp1:(pendingOf st)[L1.length]?=some (u,m,c):=by rw[<- V4,h.pd,Vs (Nat.le_refl _),Nat.sub_self];rfl
 have hp2:(pendingOf st)[L1.length+1]?=some (u+m,n,c'):=by rw[<- V4,h.pd,Vs (by lia),show L1.length+1-L1.length=1 by lia];rfl
 have s1:=h.sg (u,m,c) (by simp);have s2:=h.sg (u+m,n,c') (by simp);have b2:=c7.le;refine Sa hL h0 h.sb hp1 hp2 c3 c6 (by have:=h.le;lia) s1 s2 fun xs g hp hs ho=>q _ ⟨⟨?_,h.sb.kind,h.sb.failed⟩,?_,?_,?_,h.le⟩ fun i j hi hg=>ho.seg (.inr (by lia)) hg
 ·exact hp.trans h.sb.perm
 ·show (((pendingOf st).setIfInBounds L1.length (u,m+n,c)).eraseIdxIfInBounds (L1.length+1)).toList=_;have hz:(pendingOf st).size=L1.length+(2+L2.length):=by rw[<- Vu,h.pd];simp;lia
  rw[XH,dif_pos (by simp;lia)];rw[Array.toList_eraseIdx,Array.toList_setIfInBounds,h.pd];rw[Xq _ _ (Nat.le_refl _),Nat.sub_self,List.set_cons_zero,List.eraseIdx_append_of_length_le (by lia),show L1.length+1-L1.length=1 by lia];rfl
 ·refine Cov.app.mpr ⟨u,c1,rfl,by show 1<=m+n;lia,?_⟩;show Cov L2 (u+(m+n)) lo;rw[<- Nat.add_assoc];exact c7
 ·intro r hr;show Seg κ xs r.1 (r.1+r.2.1);rcases Vt.mp hr with hr | hr
  ·have:=c1.bounds r hr;exact ho.seg (.inl (by lia)) (h.sg r (by simp[hr]))
  ·rcases Vq.mp hr with rfl | hr
   ·show Seg κ xs u (u+(m+n));rw[<- Nat.add_assoc];exact hs
   ·have:=c7.bounds r hr;exact ho.seg (.inr (by lia)) (h.sg r (by simp[hr]))
theorem two_last{α:Type}{l:List α}(h:1<l.length):∃L1 a b,l=L1++[a,b]:=by
 have h1:l≠[]:=by intro z;rw[z]at h;simp at h
 have h2:l.dropLast≠[]:=by
  intro z;have:=congrArg List.length z;rw[List.length_dropLast]at this;simp at this
  lia
 exact ⟨l.dropLast.dropLast,l.dropLast.getLast h2,l.getLast h1,by
  conv=>lhs;rw[<- List.dropLast_concat_getLast h1,<- List.dropLast_concat_getLast h2]
  simp⟩
theorem wB{n lo:Nat}{st2:SortSt}{P:List Run}(hn1:1<=n)(hn2:lo+n<=a₀.size)(sp2:SP κ kd a₀ st2 P lo)(sg2:Seg κ (arrOf st2) lo (lo+n)):SP κ kd a₀ (setPending st2 ((pendingOf st2).push (lo,n,0))) (P++[(lo,n,0)]) (lo+n):=
 ⟨sp2.sb.pend _,by show ((pendingOf st2).push _).toList=_;rw [Xn,sp2.pd],Cov.app.mpr ⟨lo,sp2.cov,rfl,hn1,rfl⟩,fun r hr=>by
  rcases Vt.mp hr with hr | hr
  ·exact sp2.sg r hr
  ·rw[Vw]at hr;subst hr;exact sg2,hn2⟩
theorem Bw{lo c:Nat}{st2:SortSt}{P:List Run}(sp2:SP κ kd a₀ st2 P lo):∃P',SP κ kd a₀ (setPending st2 ((pendingOf st2).modify ((pendingOf st2).size-1) fun x=>(x.fst,x.2.fst,c))) P' lo:=by
 have cv:∀(P:List Run) (k i j:Nat),Cov P i j->Cov (P.modify k fun x=>(x.fst,x.2.fst,c)) i j:=fun P=>by
  induction P with
  |nil=>intro k i j h;cases k<;>exact h
  |cons r P ih=>
   intro k i j h;cases k with
   |zero=>exact h
   |succ k=>exact⟨h.1,h.2.1,ih k _ _ h.2.2⟩
 have sg:∀(P:List Run) (k:Nat),Pw κ (arrOf st2) P->Pw κ (arrOf st2) (P.modify k fun x=>(x.fst,x.2.fst,c)):=fun P=>by
  induction P with
  |nil=>intro k h;cases k<;>exact h
  |cons r P ih=>
   intro k h;cases k with
   |zero=>
    intro q hq;rcases Vq.mp (show q∈(r.1,r.2.1,c)::P from hq) with rfl | hq
    ·exact h r (by simp)
    ·exact h q (by simp[hq])
   |succ k=>
    intro q hq;rcases Vq.mp (show q∈r::P.modify k _ from hq) with rfl | hq
    ·exact h q (by simp)
    ·exact ih k (fun z hz=>h z (by simp[hz])) q hq
 exact⟨P.modify ((pendingOf st2).size-1) fun x=>(x.fst,x.2.fst,c),sp2.sb.pend _,by show ((pendingOf st2).modify _ _).toList=_;rw[Array.toList_modify,sp2.pd],cv _ _ _ _ sp2.cov,sg _ _ sp2.sg,sp2.le⟩
theorem Le(hL:kh (model prog w) A E s κ kd)(h0:KeysOf κ a₀){st:SortSt}(hB:SB kd a₀ st)(hp:pendingOf st=#[])(h1:1<=a₀.size){Q:Unit->SortSt->Prop}
  (h:∀st',SB kd a₀ st'->Seg κ (arrOf st') 0 a₀.size->Q () st'):wpS (model prog w) A E s sortRuns' Q st:=by
 rw[sortRuns'_eq];refine wpS_bind (wpS_get ?_)
 try dsimp only
 rw[hB.size]
 generalize minRun' a₀.size a₀.size 0=mr
 refine wpS_bind (wpS_mono (wpS_forRange (I:=fun x c st'=>∃ lo P,c=(none,lo)∧x≤lo∧SP κ kd a₀ st' P lo)
  (Q:=fun c st'=>∃P,c=(none,a₀.size)/\SP κ kd a₀ st' P a₀.size) ?st1 ?fi1 ⟨0,[],rfl,Nat.le_refl _,⟨hB,by rw[hp],rfl,fun r hr=>by (cases hr),by lia⟩⟩) ?po1)
 case fi1=>
  rintro c st' ⟨lo,P,rfl,hx,sp⟩;have:=sp.le;have e:lo=a₀.size:=by lia
  subst e;exact⟨P,rfl,sp⟩
 case st1=>
  rintro x c st' _ hx ⟨lo,P,rfl,hxl,sp⟩
  try dsimp only
  by_cases hlo:lo≥a₀.size
  ·rw[if_pos hlo];have:=sp.le;have e:lo=a₀.size:=by lia
   subst e;exact wpS_pure ⟨P,rfl,sp⟩
  rw[if_neg hlo];refine wpS_bind (O_ hL h0 sp.sb (by lia) (by lia) fun n xs hn1 hn2 hpm hsg hout=>?_)
  try dsimp only
  have Ng:Out (arrOf st') xs lo a₀.size:=hout.mono (Nat.le_refl _) (by lia);have spx:∀ys,ys.Perm (arrOf st')->Out (arrOf st') ys lo a₀.size->SP κ kd a₀ (setArr st' ys) P lo:=fun ys hpm hout=>⟨sp.sb.arr hpm,sp.pd,sp.cov,fun r hr=>hout.seg (.inl (sp.cov.bounds r hr).2) (sp.sg r hr),sp.le⟩;by_cases hmr:n<mr
  ·rw[if_pos hmr];refine wpS_bind (wpS_lift (wpAny_rule ⟨rfl,?_⟩));have hB2:SB kd a₀ (setArr st' xs):=sp.sb.arr hpm;refine wpS_bind (O9 hL h0 hB2 (by lia) hn1 (by lia) hsg fun ys hp2 hs2 ho2=>?_);rw[if_neg (by decide)];have hk1:1<=min (a₀.size-lo) mr:=by lia
   have hk2:lo+min (a₀.size-lo) mr<=a₀.size:=by lia
   have sp2:=spx ys (hp2.trans hpm) (Ng.trans (ho2.mono (Nat.le_refl _) (by lia)));have sg2:Seg κ (arrOf (setArr st' ys)) lo (lo+min (a₀.size-lo) mr):=hs2;show wpS _ _ _ _ _ _ (setArr st' ys)
   generalize min (a₀.size-lo) mr=k at hk1 hk2 sg2 ⊢
   refine wpS_bind (wpS_get ?_);split
   ·rename_i u m c hb;refine wpS_bind (wpS_mono (wpS_forRange (I:=fun _ c st'=>c=(none,())/\∃P',SP κ kd a₀ st' P' lo/\Seg κ (arrOf st') lo (lo+k)) (Q:=fun c st'=>c=(none,())/\∃P',SP κ kd a₀ st' P' lo/\Seg κ (arrOf st') lo (lo+k)) ?stA (fun c st' z=>z) ⟨rfl,P,sp2,sg2⟩) ?poA)
    case stA=>
     rintro x c st' _ _ ⟨rfl,P',sp',sg'⟩;refine wpS_bind (wpS_get ?_)
     try dsimp only
     split
     ·rename_i e1 e2 old ho;split
      ·exact wpS_pure ⟨rfl,P',sp',sg'⟩
      ·have hz:1<(pendingOf st').size:=by
        by_cases z:(pendingOf st').size>1
        ·exact z
        ·rw[if_neg z]at ho;cases ho
       obtain⟨L1,r1,r2,rfl⟩:=two_last (l:=P') (by rw[<- sp'.pd,Vu];exact hz);have hl:(pendingOf st').size-2=L1.length:=by rw[<- Vu,sp'.pd];simp
       rw[hl];refine wpS_bind (xu hL h0 sp' fun st3 sp3 k3=>?_);rw[if_neg (by decide)];exact wpS_pure ⟨rfl,_,sp3,k3 _ _ (Nat.le_refl _) sg'⟩
     ·exact wpS_pure ⟨rfl,P',sp',sg'⟩
    case poA=>
     rintro c st' ⟨rfl,P',sp',sg'⟩
     try dsimp only
     refine wpS_bind (wpS_modify ?_);obtain⟨P2,sp4⟩:=Bw (c:=power' a₀.size (2*u+m) (2*u+m+m+k) a₀.size) sp';exact wpS_bind (wpS_modify (wpS_pure ⟨lo+k,_,rfl,by lia,wB (by lia) (by lia) sp4 sg'⟩))
   ·exact wpS_bind (wpS_modify (wpS_pure ⟨lo+k,_,rfl,by lia,wB (by lia) (by lia) sp2 sg2⟩))
  ·rw[if_neg hmr];have sp2:=spx xs hpm Ng;have sg2:Seg κ (arrOf (setArr st' xs)) lo (lo+n):=hsg;refine wpS_bind (wpS_get ?_);split
   ·rename_i u m c hb;refine wpS_bind (wpS_mono (wpS_forRange (I:=fun _ c st'=>c=(none,())/\∃P',SP κ kd a₀ st' P' lo/\Seg κ (arrOf st') lo (lo+n)) (Q:=fun c st'=>c=(none,())/\∃P',SP κ kd a₀ st' P' lo/\Seg κ (arrOf st') lo (lo+n)) ?stA (fun c st' z=>z) ⟨rfl,P,sp2,sg2⟩) ?poA)
    case stA=>
     rintro x c st' _ _ ⟨rfl,P',sp',sg'⟩;refine wpS_bind (wpS_get ?_)
     try dsimp only
     split
     ·rename_i e1 e2 old ho;split
      ·exact wpS_pure ⟨rfl,P',sp',sg'⟩
      ·have hz:1<(pendingOf st').size:=by
        by_cases z:(pendingOf st').size>1
        ·exact z
        ·rw[if_neg z]at ho;cases ho
       obtain⟨L1,r1,r2,rfl⟩:=two_last (l:=P') (by rw[<- sp'.pd,Vu];exact hz);have hl:(pendingOf st').size-2=L1.length:=by rw[<- Vu,sp'.pd];simp
       rw[hl];refine wpS_bind (xu hL h0 sp' fun st3 sp3 k3=>?_);rw[if_neg (by decide)];exact wpS_pure ⟨rfl,_,sp3,k3 _ _ (Nat.le_refl _) sg'⟩
     ·exact wpS_pure ⟨rfl,P',sp',sg'⟩
    case poA=>
     rintro c st' ⟨rfl,P',sp',sg'⟩
     try dsimp only
     refine wpS_bind (wpS_modify ?_);obtain⟨P2,sp4⟩:=Bw (c:=power' a₀.size (2*u+m) (2*u+m+m+n) a₀.size) sp';exact wpS_bind (wpS_modify (wpS_pure ⟨lo+n,_,rfl,by lia,wB (by lia) (by lia) sp4 sg'⟩))
   ·exact wpS_bind (wpS_modify (wpS_pure ⟨lo+n,_,rfl,by lia,wB (by lia) (by lia) sp2 sg2⟩))
 case po1=>
  rintro c st' ⟨P,rfl,sp⟩
  try dsimp only
  have hPl:=sp.cov.le;refine wpS_bind (wpS_mono (wpS_forRange (I:=fun x c st'=>c=(none,())/\∃P,SP κ kd a₀ st' P a₀.size/\P.length+x<=a₀.size+1) (Q:=fun c st'=>c=(none,())/\∃P,SP κ kd a₀ st' P a₀.size/\P.length<=1) ?st2 ?fi2 ⟨rfl,P,sp,by lia⟩) ?po2)
  case fi2=>rintro c st' ⟨rfl,P,sp,hl⟩;exact⟨rfl,P,sp,by lia⟩
  case st2=>
   rintro x c st' _ hx ⟨rfl,P,sp,hl⟩
   try dsimp only
   refine wpS_bind (wpS_get ?_);have Nm:(pendingOf st').size=P.length:=by rw[<- Vu,sp.pd]
   by_cases h2:(pendingOf st').size<=1
   ·rw[if_pos h2];exact wpS_pure ⟨rfl,P,sp,by lia⟩
   rw[if_neg h2]
   generalize hi:(if (Option.any (fun z=>decide (z<((pendingOf st')[(pendingOf st').size-2+1]?.elim 0 fun z=>z.2.1))) (if (pendingOf st').size-2>0 then (pendingOf st')[(pendingOf st').size-2-1]?.map fun z=>z.2.1 else none))=true then (pendingOf st').size-2-1 else (pendingOf st').size-2)=i
   have hle:∀(c:Bool) (m:Nat),(if c=true then m-1 else m)<=m:=fun c m=>by cases c<;>simp
   have hi2:i<=(pendingOf st').size-2:=hi▸hle _ _;have hib:i+1<P.length:=by lia
   have e:P=P.take i++P[i]::P[i+1]::P.drop (i+2):=by have a1:=Wh (l:=P) (i:=i) (by lia);have a2:=Wh (l:=P) (i:=i+1) (by lia);rw[<- a2,<- a1,W5]
   have sp':=sp;rw[e]at sp';have IY:(P.take i).length=i:=by rw[V8];lia
   have mg:=xu (A:=A) (E:=E) (s:=s) hL h0 sp' (Q:=fun b st''=>b=true/\∃P2,SP κ kd a₀ st'' P2 a₀.size/\P2.length+(x+1)<=a₀.size+1) fun st3 sp3 k3=>⟨rfl,_,sp3,by simp;lia⟩;rw[IY]at mg;refine wpS_bind (wpS_mono mg fun b st3 hb=>?_);obtain⟨rfl,P2,sp2,hl2⟩:=hb;rw[if_neg (by decide)];exact wpS_pure ⟨rfl,P2,sp2,hl2⟩
  case po2=>
   rintro c st' ⟨rfl,P,sp,hl⟩;refine wpS_pure (h st' sp.sb ?_)
   match P,hl,sp with
   |[],_,sp=>have:=sp.cov;unfold Cov at this;lia
   |[r],_,sp=>obtain⟨c1,c2,c3⟩:=sp.cov;have:=sp.sg r (by simp);unfold Cov at c3;rw[c1,c3]at this;exact this
   |_::_::_,hl,_=>simp at hl
end Ts
namespace Ts
open PySem PyProof.Rows
variable{A:Around}{E:Value->Shared->Prop}{s:Shared}{κ:KeyKind}{kd:SortKind}{prog:Program}{w:World}
section
variable{vs:List Value}
theorem done_one(h:vs.toArray.size<2):Seg κ (pairsOf vs) 0 (pairsOf vs).size:=fun p q _ h2 h3=>by
 rw[pairsOf_size]at h3;simp at h;have:p=q:=by lia
 subst this;exact Wz _
theorem Lf{a:Addr}{n:Nat}{R:Fin->Shared->Prop}(ho:s.heap.get? a=some (seqObj "list" vs.toArray n))(hn:vs.length<=100000)
  (hk:KeysOf κ (pairsOf vs)) (hkk:∀h',(∀b o,b≠a->s.heap.get? b=some o->h'.get? b=some o)->2<=vs.length->∀{Q:SortKind->Shared->Prop},Q kd { s with heap:=h' }->wpAny (model prog w) A (keyKind' vs.toArray) Q E { s with heap:=h' })
  (hL:∀h',(∀b o,b≠a->s.heap.get? b=some o->h'.get? b=some o)->kh (model prog w) A E { s with heap:=h' } κ kd)
  (h:∀st':SortSt,(arrOf st').Perm (pairsOf vs)->Seg κ (arrOf st') 0 (pairsOf vs).size->R (.done (.ret .none)) { s with heap:=sortedHeap s.heap a vs ((arrOf st').map (·.2)) }) :
  wpAny (model prog w) A (Builtin.«list.sort» ⟨[.ref a],[]⟩) R E s:=by
 have lt:=Vl ho;have fits:sizeLine=sizeLine:=rfl;rw[list_sort_plain];refine wpAny_bind (listItems_at ho rfl (wpAny_bind (listUpdate_at ho rfl ?_ (hsz:=by simp;exact Nat.le_trans hn (by decide)) (hsz2:=VN _))));obtain⟨ep,h1⟩:∃ep,(s.heap.update a (Wq fun _=>#[])).get? a=some (seqObj "list" #[] ep):=⟨_,get?_update_seq ho _⟩
 refine wpAny_bind (seqEpoch_at h1 rfl (wpAny_bind (wpAny_newTuple (wpAny_bind (wpAny_newList (wpAny_holding ?_))))));have h6:(((s.heap.update a (Wq fun _=>#[])).push (seqObj "tuple" vs.toArray 0)).push (seqObj "list" #[] 0)).get? a=some (seqObj "list" #[] ep):=by have z1:(s.heap.update a (Wq fun _=>#[])).objs.size=s.heap.objs.size:=YA _ _ _;rw[Xa _ _ _ (by rw[size_push',z1];exact VC (XO lt)),Xa _ _ _ (by rw[z1];exact VC lt)];exact h1
 have ext:∀b o,b≠a->s.heap.get? b=some o->(((s.heap.update a (Wq fun _=>#[])).push (seqObj "tuple" vs.toArray 0)).push (seqObj "list" #[] 0)).get? b=some o:=fun b o hb e=>by have z1:(s.heap.update a (Wq fun _=>#[])).objs.size=s.heap.objs.size:=YA _ _ _;have lb:=Vl e;rw[Xa _ _ _ (by rw[size_push',z1];exact VC (XO lb)),Xa _ _ _ (by rw[z1];exact VC lb),Heap.get?_update_ne _ _ _ _ hb];exact e
 show wpAny (model prog w) A _ R E { s with heap:=(((s.heap.update a (Wq fun _=>#[])).push (seqObj "tuple" vs.toArray 0)).push (seqObj "list" #[] 0)) };have hkk':=hkk _ ext;have hL':=hL _ ext;have Qi:∀st':SortSt,failedOf st'=none->(arrOf st').Perm (pairsOf vs)->Seg κ (arrOf st') 0 (pairsOf vs).size ->
   wpAny (model prog w) A (do
    let d <- seqEpoch a
    let touched:=d != ep
    Builtin.List.listUpdate (VF a) fun _=>Array.map (fun x=>x.snd) (arrOf st')
    if let some e:=failedOf st' then
     rule "list.sort.comparison-raised"
     throw e
    if touched then
     rule "list.sort.modified"
     raiseError "ValueError" "list modified during sort"
    ret .none) R E { s with heap:=(((s.heap.update a (Wq fun _=>#[])).push (seqObj "tuple" vs.toArray 0)).push (seqObj "list" #[] 0)) }:=fun st' hf hp hs=>by
  refine wpAny_bind (seqEpoch_at h6 rfl ?_);have hz:(Array.map (fun x=>x.snd) (arrOf st')).size=vs.length:=by rw[Array.size_map,hp.size_eq,pairsOf_size]
  refine wpAny_bind (listUpdate_at h6 rfl ?_ (hsz:=VN _) (hsz2:=by rw[hz];exact Nat.le_trans hn (by decide)));rw[hf];simp only[bne_self_eq_false,V3,if_false];exact wpAny_pure (h st' hp hs)
 by_cases h2:vs.toArray.size<2
 ·rw[if_pos h2,if_pos h2];refine wpAny_bind (wpAny_pure ?_);refine wpAny_bind (show wpAny (model prog w) A ((pure ():StateT SortSt Sem Unit).run (Yw general' (vs.toArray.zip vs.toArray) #[] 7 none)) _ E _ from ?_);rw[StateT.run_pure];refine wpAny_pure ?_;exact Qi (Yw general' (vs.toArray.zip vs.toArray) #[] 7 none) rfl (Array.Perm.refl _) (done_one h2)
 ·rw[if_neg h2,if_neg h2];have hl:2<=vs.length:=by simp at h2;lia
  refine wpAny_bind (hkk' hl ?_);refine wpAny_bind (wpAny_mono (Le (κ:=κ) hL' hk (st:=Yw kd (vs.toArray.zip vs.toArray) #[] 7 none) ⟨Array.Perm.refl _,rfl,rfl⟩ rfl (by rw [pairsOf_size];lia)
   (Q:=fun _ st'=>(arrOf st').Perm (pairsOf vs)/\failedOf st'=none/\Seg κ (arrOf st') 0 (pairsOf vs).size) fun st' sb sg=>⟨sb.perm,sb.failed,sg⟩) ?_ fun _ _ e=>e)
  rintro⟨⟨⟩,st'⟩ s' ⟨rfl,hp,hf,hs⟩;exact Qi st' hf hp hs
theorem zm{l:Addr}{Q:Value->Shared->Prop}(hl:s.heap.IsList l vs.toArray)(hn:vs.length<=100000)
  (hk:KeysOf κ (pairsOf vs)) (hkk:∀(A:Around) h',(∀b o,s.heap.get? b=some o->h'.get? b=some o)->2<=vs.length->∀{Q:SortKind->Shared->Prop} {E:Value->Shared->Prop},Q kd { s with heap:=h' }->wpAny (model prog w) A (keyKind' vs.toArray) Q E { s with heap:=h' })
  (hL:∀(A:Around) (E:Value->Shared->Prop) h',(∀b o,s.heap.get? b=some o->h'.get? b=some o)->kh (model prog w) A E { s with heap:=h' } κ kd)
  (h:∀st':SortSt,(arrOf st').Perm (pairsOf vs)->Seg κ (arrOf st') 0 (pairsOf vs).size->Q (.ref (s.heap.objs.size+1)) { s with heap:=sortedAll s.heap vs ((arrOf st').map (·.2)) }) :
  wpAny (model prog w) A (call (.builtin "sorted") [.ref l]) Q E s:=by
 refine Calls.call_function_entry kind_sorted plain_sorted entry_sorted (args_sorted1 _) ?_;unfold Builtin.«sorted»;refine wpAny_bind (m:=checkCount "sorted" 1 1 _) (wpAny_pure (wpAny_bind (collect_list hl (wpAny_bind (wpAny_newList ?_ (Nat.le_trans hn (by decide)))) (Nat.le_trans hn (by decide)))));have zs:((s.heap.push (seqObj "list" #[] 0)).update s.heap.objs.size (Wq (·++vs.toArray))).objs.size=s.heap.objs.size+1:=by rw[YA,size_push']
 have hL0:(((s.heap.push (seqObj "list" #[] 0)).update s.heap.objs.size (Wq (·++vs.toArray))).push (seqObj "list" vs.toArray 0)).get? (s.heap.objs.size+1)=some (seqObj "list" vs.toArray 0):=by rw[<- zs];exact VY _ rfl
 have up:∀b o,s.heap.get? b=some o->(((s.heap.push (seqObj "list" #[] 0)).update s.heap.objs.size (Wq (·++vs.toArray))).push (seqObj "list" vs.toArray 0)).get? b=some o:=fun b o e=>by have lb:=Vl e;rw[Xa _ _ _ (by rw[zs];exact VC (XO lb)),Heap.get?_update_ne _ _ _ _ (VC lb),Xa _ _ _ (VC lb)];exact e
 show wpAny _ _ _ _ _ { s with heap:=((s.heap.push (seqObj "list" #[] 0)).update s.heap.objs.size (Wq (·++vs.toArray))).push (seqObj "list" vs.toArray 0) };dsimp only;rw[zs];have nb:∀b o,s.heap.get? b=some o->b≠s.heap.objs.size+1:=fun b o e=>VC (XO (Vl e));refine wpAny_bind (wpAny_holding (wpAny_call_entry slot_list_sort ⟨_,hL0,rfl⟩ entry_list_sort (Lf (κ:=κ) (kd:=kd) hL0 hn hk (fun h' k h2 {Q} hq=>hkk _ h' (fun b o e=>k b o (nb b o e) (up b o e)) h2 hq) (fun h' k=>hL _ _ h' fun b o e=>k b o (nb b o e) (up b o e)) fun st' a1 a2=>⟨_,rfl,?_⟩) (args_list_sort _)));exact wpAny_pure ⟨_,rfl,h st' a1 a2⟩
end
end Ts
namespace Ts
open PySem PyProof.Rows
variable{A:Around}{E:Value->Shared->Prop}{s:Shared}{κ:KeyKind}{kd:SortKind}{a₀:Array Keyed}{prog:Program}{w:World}
end Ts
namespace Ts
open PySem PyProof.Rows
variable{A:Around}{E:Value->Shared->Prop}{s:Shared}{κ:KeyKind}{kd:SortKind}{prog:Program}{w:World}
end Ts
namespace Dm
section
variable{α:Type}
noncomputable def lx:List Int->List Int->Bool
 |[],[]=>false
 |[],_::_=>true
 |_::_,[]=>false
 |a::x,b::y=>if a=b then lx x y else decide (a<b)
theorem tO:∀a,lx a a=false
 |[]=>rfl
 |a::x=>by rw[lx,if_pos rfl,tO x]
theorem rE:∀a b c,lx a b=true->lx b c=true->lx a c=true
 |[],[],_,h,_=>by cases h
 |[],_::_,[],_,h=>by cases h
 |[],_::_,_::_,_,_=>rfl
 |_::_,[],_,h,_=>by cases h
 |_::_,_::_,[],_,h=>by cases h
 |a::x,b::y,c::z,h1,h2=>by
  rw[lx]at h1 h2 ⊢;by_cases e1:a=b
  ·subst e1;rw[if_pos rfl]at h1;by_cases e2:a=c
   ·subst e2;rw[if_pos rfl]at h2 ⊢;exact rE x y z h1 h2
   ·rw[if_neg e2]at h2 ⊢;exact h2
  ·rw[if_neg e1]at h1;have h1:=of_decide_eq_true h1;by_cases e2:b=c
   ·subst e2;rw[if_neg e1];exact decide_eq_true h1
   ·rw[if_neg e2]at h2;have h2:=of_decide_eq_true h2;rw[if_neg (by lia)];exact decide_eq_true (by lia)
theorem rF:∀a b,lx a b=false->lx b a=false->a=b
 |[],[],_,_=>rfl
 |[],_::_,h,_=>by cases h
 |_::_,[],_,h=>by cases h
 |a::x,b::y,h1,h2=>by
  rw[lx]at h1 h2;by_cases e:a=b
  ·subst e;rw[if_pos rfl]at h1 h2;rw[rF x y h1 h2]
  ·rw[if_neg e]at h1;rw[if_neg (fun z=>e z.symm)]at h2;have h1:=of_decide_eq_false h1;have h2:=of_decide_eq_false h2
   lia
theorem Ie(a b c:List Int)(h:lx a c=true):lx a b=true\/lx b c=true:=by
 by_cases h1:lx a b=true
 ·exact .inl h1
 ·refine .inr ?_;have h1':lx a b=false:=by simpa using h1
  by_cases h2:lx b a=true
  ·exact rE b a c h2 h
  ·have:=rF a b h1' (by simpa using h2);subst this;exact h
noncomputable def ins{α:Type}(lt:α->α->Bool)(x:α):List α->List α
 |[]=>[x]
 |y::l=>if lt y x then y::ins lt x l else x::y::l
noncomputable def rG{α:Type}(lt:α->α->Bool):List α->List α
 |[]=>[]
 |x::l=>ins lt x (rG lt l)
noncomputable def Bx:List Dat->Option (List (List Int))
 |[]=>some []
 | .tup ds::r=>(match jA ds with
  |some ns=>if ns.isEmpty then none else (Bx r).map fun nss=>ns::nss
  |none=>none)
 |_=>none
noncomputable def Lg(ns:List Int):Dat:=.tup (ns.map .int)
noncomputable def kM:List Dat->Option RV
 | [.lst xs]=>if xs.length≤100000 then (match jA xs with
  |some ns=>some (.new (.lst ((rG (fun a b=>decide (a<b)) ns).map .int)))
  |none=>match Bx xs with
   |some nss=>some (.new (.lst ((rG lx nss).map Lg)))
   |none=>none) else none
 |_=>none
theorem xw(lt:α->α->Bool)(x:α):∀l,(ins lt x l).Perm (x::l)
 |[]=>List.Perm.refl _
 |y::l=>by
  rw[ins];split
  ·exact((xw lt x l).cons y).trans (Ye.swap x y l)
  ·exact List.Perm.refl _
theorem pD(lt:α->α->Bool):∀l,(rG lt l).Perm l
 |[]=>List.Perm.refl _
 |x::l=>(xw lt x _).trans ((pD lt l).cons x)
theorem xx{lt:α->α->Bool}(tr:∀a b c,lt b a=false->lt c b=false->lt c a=false)(as:∀a b,lt a b=true->lt b a=false)(x:α):∀l:List α,l.Pairwise (fun a b=>lt b a=false)->(ins lt x l).Pairwise (fun a b=>lt b a=false)
 |[],_=>by simp[ins]
 |y::l,h=>by
  rw[ins];obtain⟨h1,h2⟩:=W2.mp h;split
  ·rename_i hl;refine W2.mpr ⟨fun z hz=>?_,xx tr as x l h2⟩;rcases Vq.mp ((xw lt x l).mem_iff.mp hz) with rfl | hz
   ·exact as _ _ hl
   ·exact h1 z hz
  ·rename_i hl;have hl':lt y x=false:=by simpa using hl
   refine W2.mpr ⟨fun z hz=>?_,h⟩;rcases Vq.mp hz with rfl | hz
   ·exact hl'
   ·exact tr _ _ _ hl' (h1 z hz)
theorem kN{lt:α->α->Bool}(tr:∀a b c,lt b a=false->lt c b=false->lt c a=false)(as:∀a b,lt a b=true->lt b a=false):∀l:List α,(rG lt l).Pairwise (fun a b=>lt b a=false)
 |[]=>Yk.nil
 |x::l=>xx tr as x _ (kN tr as l)
theorem mh{lt:α->α->Bool}(tot:∀a b,lt a b=false->lt b a=false->a=b):∀{l m:List α},l.Perm m->l.Pairwise (fun a b=>lt b a=false)->m.Pairwise (fun a b=>lt b a=false)->l=m
 |[],m,p,_,_=>(List.nil_perm.mp p).symm
 |x::l,[],p,_,_=>by have:=p.length_eq;simp at this
 |x::l,y::m,p,h1,h2=>by
  obtain⟨a1,a2⟩:=W2.mp h1;obtain⟨b1,b2⟩:=W2.mp h2;have e:x=y:=by
   rcases Vq.mp (p.mem_iff.mp PU) with hx | hx
   ·exact hx
   ·rcases Vq.mp (p.mem_iff.mpr (PU (a:=y) (l:=m))) with hy | hy
    ·exact hy.symm
    ·exact tot x y (b1 x hx) (a1 y hy)
  subst e;rw[mh tot (Ye.cons_inv p) a2 b2]
end
end Dm
namespace Br
open PySem PySem.Spec PyProof.Rows L2
noncomputable def lexOrd:KeyOrd:=⟨List Int,Dm.lx,Dm.tO,Dm.rE,fun a b c h=>Dm.Ie a b c h,Dm.rF⟩
noncomputable def Px:KeyOrd:=⟨Int,fun a b=>decide (a<b),fun a=>by simp,fun a b c h1 h2=>by simp at *;lia,fun a b c h=>by simp at *;lia,fun a b h1 h2=>by simp at *;lia⟩
noncomputable def o5:List V->Option (List Int)
 |[]=>some []
 |.int i::r=>(o5 r).map fun ns=>i::ns
 |_=>none
theorem iJ:∀ns:List Int,o5 (ns.map V.int)=some ns
 |[]=>rfl
 |n::ns=>by rw[gV,o5,iJ ns];rfl
theorem By:∀{xs:List V} {ns:List Int},o5 xs=some ns->xs=ns.map V.int
 |[],ns,h=>by cases h;rfl
 |.int i::r,ns,h=>by
  unfold o5 at h;cases e:o5 r with
  |none=>rw[e]at h;cases h
  |some ms=>rw[e]at h;cases h;rw[By e];rfl
 |.non::_,_,h=>by cases h
 |.bl _::_,_,h=>by cases h
 |.str _::_,_,h=>by cases h
 |.ref _::_,_,h=>by cases h
 |.byt _::_,_,h=>by cases h
 |.flt _::_,_,h=>by cases h
 |.ty _::_,_,h=>by cases h
noncomputable def yL(H:Hp):Value->Option (List Int)
 | .ref a=>(match H a with
  |some (.tup xs)=>o5 xs
  |_=>none)
 |_=>none
noncomputable def Ak(H:Hp):KeyKind:={ lexOrd with keyOf:=yL H,dflt:=([]:List Int) }
noncomputable def F5:Value->Option Int
 |.int n _=>some n
 |_=>none
noncomputable def EK:KeyKind:={ Px with keyOf:=F5,dflt:=(0:Int) }
section
variable{prog:Program}{w:World}{A:Around}{E:Value->Shared->Prop}{s:Shared}
theorem BA{Qi:Bool}{Q:Bool->Shared->Prop}:∀{xs ys:List Value} {ks ms:List Int} (i:Nat),IntsAre xs ks->IntsAre ys ms->Qi=decide (ks.length<ms.length)->Q (Dm.lx ks ms) s ->
  PySem.W.KatLex prog w A true Qi Q (xs.zip ys) i s
 |_,_,_,_,i,.nil,.nil,hf,q=>by subst hf;exact q
 |_,_,_,_,i,.nil,.cons m u h',hf,q=>by subst hf;exact q
 |_,_,_,_,i,.cons k t h,.nil,hf,q=>by subst hf;exact q
 |_,_,_,_,i,.cons k t h,.cons m u h',hf,q=>by
  rw[Yh];refine PySem.W.kat_cons (wpAny_eqBool_int ?_);rw[Dm.lx]at q;by_cases e:k=m
  ·rw[if_pos e]at q;have:(k == m)=true:=by simpa using e
   rw[this];refine PySem.W.kat_yes (BA (i+1) h h' ?_ q);rw[hf];simp
  ·rw[if_neg e]at q;have:(k == m)=false:=by simpa using e
   rw[this];refine PySem.W.kat_no ?_;cases hb:(true&&i == 0)
   ·exact PySem.W.kat_one _ _ (lt_int q)
   ·exact oneLt_int q
theorem zo{κ:KeyKind}{kd:SortKind}(h:∀(x y:Keyed) (a b:κ.α) {Q:Bool->Shared->Prop} {E:Value->Shared->Prop},κ.keyOf x.1=some a->κ.keyOf y.1=some b->Q (κ.blt a b) s->wpAny (model prog w) A (keyLt' kd x.1 y.1) Q E s):Ts.kh (model prog w) A E s κ kd:=fun x y a b st Q ha hb hk q=>by rw[lt'_eq];refine wpS_bind (wpS_get ?_);rw[hk];refine wpS_bind (wpS_lift (wpAny_attempt (h x y a b ha hb ⟨rfl,?_⟩)));exact wpS_pure q
end
noncomputable def bk:Value->V
 |.ref a=>.ref a
 |.int n _=>.int n
 |_=>.non
def Ig(K:Dk):List V->Hp->VK->Prop:=fun xs H Q=>∃(p:Addr) (ys:List V),xs=[.ref p]/\SqL K H p ys/\ys.length<=100000/\(∀y∈ys,∃(a:Addr) (ks:List Int),y=.ref a/\H a=some (.tup (ks.map V.int))/\ks≠[]) /\
 ∀(zs:List V) (l:Addr),zs.Perm ys->zs.Pairwise (fun y z=>∀(a b:Addr) (ks ms:List Int),y=.ref a->z=.ref b->H a=some (.tup (ks.map V.int))->H b=some (.tup (ms.map V.int))->Dm.lx ms ks=false)->H l=none->Q (.ref l) (upd H l (.lst zs))
def Ih(K:Dk):List V->Hp->VK->Prop:=fun xs H Q=>∃(p:Addr) (ns:List Int),xs=[.ref p]/\SqL K H p (ns.map V.int)/\ns.length<=100000 /\
 ∀(ms:List Int) (l:Addr),ms.Perm ns->ms.Pairwise (fun a b=>decide (b<a)=false)->H l=none->Q (.ref l) (upd H l (.lst (ms.map V.int)))
section
variable{X:Cx}
theorem oq{vs:List Value}{q:Keyed}(h:q∈(pairsOf vs).toList):q.1=q.2/\q.1∈vs:=by
 rw[pairsOf_toList]at h;have hh:∀(l:List Value) (q:Keyed),q∈l.zip l->q.1=q.2/\q.1∈l:=fun l=>by
  induction l with
  |nil=>intro q h;cases h
  |cons v l ih=>
   intro q h;rw[Yh]at h;rcases Vq.mp h with rfl | h
   ·exact⟨rfl,PU⟩
   ·exact⟨(ih q h).1,Ds _ (ih q h).2⟩
 exact hh _ q h
theorem F6(vs:List Value):(pairsOf vs).toList.map (·.2)=vs:=by
 rw[pairsOf_toList];have hh:∀l:List Value,(l.zip l).map (·.2)=l:=fun l=>by
  induction l with
  |nil=>rfl
  |cons v l ih=>rw[Yh,gV,ih]
 exact hh vs
theorem Ii{κ:KeyKind}{vs:List Value}{st':SortSt}(hk:KeysOf κ (pairsOf vs))(hp:(arrOf st').Perm (pairsOf vs))(hs:Ts.Seg κ (arrOf st') 0 (pairsOf vs).size) :
  ∃out:List Value,((arrOf st').map (·.2))=out.toArray/\out.Perm vs/\out.Pairwise (fun u v=>∀a b,κ.keyOf u=some a->κ.keyOf v=some b->κ.blt b a=false):=by
 have pm:=W7.mp hp;refine⟨(arrOf st').toList.map (·.2),Array.toList_inj.mp (by rw[Array.toList_map]),?_,?_⟩
 ·have:=pm.map (·.2)
  rwa [F6]at this
 ·have ka:KeysOf κ (arrOf st'):=fun q hq=>hk q (pm.mem_iff.mp hq);have hz:(arrOf st').size=(pairsOf vs).size:=hp.size_eq;rw[<- hz]at hs;have:=(Ts.kj ka (i:=0) (j:=(arrOf st').size) (Nat.le_refl _)).mp hs;rw[Ts.kL,List.drop_zero]at this;rw[WY];refine WX ?_ this;intro x y hx hy hle a b ha hb;have e1:=(oq (pm.mem_iff.mp hx)).1;have e2:=(oq (pm.mem_iff.mp hy)).1;have hle':κ.blt (Ts.kp κ y) (Ts.kp κ x)=false:=hle;unfold Ts.kp at hle';rw[e1,e2,ha,hb]at hle';exact hle'
theorem C_:fy X (.builtin "sorted") (Ig X.K):=by
 intro Dz s σ H xs us Q I r h;obtain⟨p,ys,rfl,hq,hl,hks,k⟩:=h;obtain⟨u,rfl,rx⟩:=vals1 r;cases rx;obtain⟨its,rv,pl,hz⟩:=I.list hq;have IY:=rv.length;have refs:∀(ys:List V) (its:List Value),Vals ys its->(∀y∈ys,∃(a:Addr) (ks:List Int),y=.ref a/\H a=some (.tup (ks.map V.int))/\ks≠[])->its.map bk=ys/\∀v∈its,∃(a:Addr) (ks:List Int),v=.ref a/\H a=some (.tup (ks.map V.int))/\ks≠[]:=fun ys=>by
  induction ys with
  |nil=>intro its rv _;cases rv;exact⟨rfl,fun v hv=>by cases hv⟩
  |cons y ys ih=>
   intro its rv hy;cases rv with
   |cons h1 h2=>
    obtain⟨a,ks,rfl,h3,h4⟩:=hy y PU;cases h1;obtain⟨i1,i2⟩:=ih _ h2 fun z hz=>hy z (Ds _ hz);refine⟨by rw[gV,i1];rfl,fun v hv=>?_⟩;rcases Vq.mp hv with rfl | hv
    ·exact⟨a,ks,rfl,h3,h4⟩
    ·exact i2 v hv
 obtain⟨eb,hv⟩:=refs ys its rv hks;have key:∀v∈its,∃ks,(Ak H).keyOf v=some ks:=fun v hm=>by obtain⟨a,ks,rfl,h3,_⟩:=hv v hm;refine⟨ks,?_⟩;show yL H (.ref a)=some ks;unfold yL;dsimp only;rw[h3];exact iJ ks
 have hk:KeysOf (Ak H) (pairsOf its):=fun q hq=>key q.1 (oq hq).2;have look:∀(h':Heap),(∀b o,s.heap.get? b=some o->h'.get? b=some o)->∀(v:Value) (ks:List Int),yL H v=some ks->∃(a:Addr) (o:Obj) (ts:List Value) (n:Nat),v=.ref a/\h'.get? a=some o/\o.cls=.type "tuple" /\ o.data=.seq ts.toArray n/\IntsAre ts ks:=fun h' kp v ks e=>by
  unfold yL at e;split at e
  ·rename_i a;split at e
   ·rename_i xs hx;have:=By e;subst this;obtain⟨_,ts,rt,o,ho,hc,n,hd⟩:=I.hok a _ hx;exact⟨a,o,ts,n,rfl,kp _ _ ho,hc,hd,intsAre_of rt⟩
   ·cases e
  ·cases e
 refine Ts.zm (κ:=Ak H) (kd:=tuples' true) pl.isList (by lia) hk (fun A' h' kp h2 {Q'} {E'} hq'=>?_) (fun A' E' h' kp=>?_) fun st' hp hs=>?_
 ·-- the kind
  have tups:∀l:List Value,(∀v∈l,∃(a:Addr) (ks:List Int),v=.ref a/\H a=some (.tup (ks.map V.int))/\ks≠[])->∃fs,PySem.W.KatTups h' l fs/\fs.length=l.length/\∀f∈fs,∃n t,f=XW n t:=fun l=>by
   induction l with
   |nil=>intro _;exact⟨[],.nil,rfl,fun f hf=>by cases hf⟩
   |cons v l ih=>
    intro hl';obtain⟨a,ks,rfl,h3,h4⟩:=hl' v PU;obtain⟨fs,t,lf,hf⟩:=ih fun z hz=>hl' z (Ds _ hz);obtain⟨a',o,ts,n,e,ho,hc,hd,hi⟩:=look h' kp (.ref a) ks (by unfold yL;dsimp only;rw[h3];exact iJ ks);cases e;cases hi with
    |nil=>exact absurd rfl h4
    |cons m t' hi'=>
     refine⟨_::fs,.cons ho hc hd (f:=.int m t') (by simp) t,by simp[lf],fun f hm=>?_⟩;rcases Vq.mp hm with rfl | hm
     ·exact⟨_,_,rfl⟩
     ·exact hf f hm
  obtain⟨fs,t,lf,hf⟩:=tups its hv;refine PySem.W.kat_kind (s:={ s with heap:=h' }) (T:=.type "int") t (by lia) (fun f hm=>?_) (by rfl) ?_
  ·obtain⟨n,tk,rfl⟩:=hf f hm;exact .now
  ·exact hq'
 ·refine zo fun x y a b {Q'} {E''} ha hb q=>?_;obtain⟨ax,ox,tx,nx,ex,hx,_,dx,ix⟩:=look h' kp x.1 a ha;obtain⟨ay,oy,ty,ny,ey,hy,_,dy,iy⟩:=look h' kp y.1 b hb;rw[ex,ey];refine PySem.W.kat_lt (s:={ s with heap:=h' }) hx dx hy dy ?_;exact BA 0 ix iy (by rw[Vo,Vo,ix.length,iy.length]) q
 ·obtain⟨out,eo,po,so⟩:=Ii hk hp hs;rw[eo];obtain⟨c,hc⟩:=sortedAll_at s.heap its out.toArray;have vo:∀l:List Value,(∀v∈l,∃(a:Addr) (ks:List Int),v=.ref a/\H a=some (.tup (ks.map V.int))/\ks≠[])->Vals (l.map bk) l:=fun l=>by
   induction l with
   |nil=>intro _;exact .nil
   |cons v l ih=>intro hl';obtain⟨a,ks,rfl,_⟩:=hl' v PU;exact .cons rfl (ih fun z hz=>hl' z (Ds _ hz))
  have hvo:=vo out fun v hm=>hv v (po.mem_iff.mp hm);have hz2:(out.map bk).length<=sizeLine:=by rw[Pa,po.length_eq,<- IY];exact hz
  refine⟨.ref (s.heap.objs.size+1),_,I.laid (t':=s.toks) (fun _ _=>sortedAll_old) (XR _) (show bC X.prog X.w _ _ _ (.lst (out.map bk)) from ⟨hz2,out,c,hvo,hc⟩),rfl,k _ _ ?_ ?_ (I.hok.fresh (XR _))⟩
  ·have:=po.map bk
   rwa [eb]at this
  ·rw[WY];refine WX ?_ so;intro x y hx hy hle a b ks ms e1 e2 h1 h2;obtain⟨a',ks',rfl,h1',_⟩:=hv x (po.mem_iff.mp hx);obtain⟨b',ms',rfl,h2',_⟩:=hv y (po.mem_iff.mp hy);cases e1;cases e2;refine hle ks ms ?_ ?_
   ·show yL H (.ref a)=some ks;unfold yL;dsimp only;rw[h1];exact iJ ks
   ·show yL H (.ref b)=some ms;unfold yL;dsimp only;rw[h2];exact iJ ms
end
end Br
namespace Dm
noncomputable def F7(i:Nat)(e:FE):FS:=fun ρ=>match ρ[i]? with
 | some (.ow (.lst _))=>(match e ρ with
  |none=>none
  |some (x,ρ1)=>match pk ρ1 x with
   | some (.lst es)=>(match ρ1[i]? with
    |some (.ow (.lst ds))=>if ds.length+es.length<=SZ then some (.nx (ρ1.set i (.ow (.lst (ds++es))))) else none
    |_=>none)
   |_=>none)
 |_=>none
noncomputable def tP(i:Nat)(e:FE):FE:=fun ρ=>match ρ[i]? with
 | some (.ow (.lst _))=>(match e ρ with
  | some (.val (.int j),ρ1)=>(match ρ1[i]? with
   | some (.ow (.lst ds))=>if 0≤j∧j≤BIG then (match ds[j.toNat]? with
     |some d=>some (.val d,ρ1.set i (.ow (.lst (ds.eraseIdx j.toNat))))
     |none=>none) else none
   |_=>none)
  |_=>none)
 |_=>none
noncomputable def isN:Dat->Bool
 |.non=>true
 |_=>false
noncomputable def Va:Dat->Dat->Option RV
 |d,.non=>vB (isN d)
 |_,_=>none
noncomputable def BB:Dat->Dat->Option RV
 |d,.non=>vB (!isN d)
 |_,_=>none
noncomputable def xy(bad:List Dat->Bool)(fs:List FE)(ρ:Env):Option Env:=match eAs fs ρ with
 |none=>none
 |some (xs,ρ1)=>match pks ρ1 xs with
  |none=>none
  |some ds=>if bad ds then some ρ1 else none
noncomputable def rIf(t:FT)(R S:Env->Option Env)(ρ:Env):Option Env:=match t ρ with
 |none=>none
 |some (true,ρ1)=>R ρ1
 |some (false,ρ1)=>S ρ1
noncomputable def Sd(ρ:Env):Option Env:=some ρ
noncomputable def rNo(_:Env):Option Env:=none
noncomputable def fnX(n m:Nat)(R:Env->Option Env)(ds:List Dat):Bool:=decide (ds.length=n)&&(R (ds.map .sh++Dp m .un)).isSome
noncomputable def BC(C:Nat)(b:Bool):Dat->Option RV
 |.exc C'=>if C'=C then vB b else none
 |.cY C' _=>if C'=C then vB b else none
 |_=>none
end Dm
namespace Br
open PySem PySem.Spec PyProof.Rows L2
theorem Lh:∀{vs:List Value} {ns:List Int},IntsAre vs ns->2<=vs.length->keyKind' vs.toArray=pure oneType'
 |[],_,_,h=>by simp at h
 |[_],_,_,h=>by simp at h
 |_::_::_,_,hI,_=>keyKind_ints hI
section
variable{X:Cx}
theorem Dc:fy X (.builtin "sorted") (Ih X.K):=by
 intro Dz s σ H xs us Q I r h;obtain⟨p,ns,rfl,hq,hl,k⟩:=h;obtain⟨u,rfl,rx⟩:=vals1 r;cases rx;obtain⟨its,rv,pl,hz⟩:=I.list hq;have IY:=rv.length;rw[Pa]at IY;have hI:=intsAre_of rv;have key:∀{vs:List Value} {ns:List Int},IntsAre vs ns->∀v∈vs,∃n t,v=XW n t:=fun {vs}=>by
  induction vs with
  |nil=>intro ns h v hv;cases hv
  |cons v vs ih=>
   intro ns h z hz;cases h with
   |cons n t h'=>
    rcases Vq.mp hz with rfl | hz
    ·exact⟨_,_,rfl⟩
    ·exact ih h' z hz
 have hk:KeysOf EK (pairsOf its):=fun q hq=>by obtain⟨n,t,e⟩:=key hI q.1 (oq hq).2;exact⟨n,by rw[e];rfl⟩
 refine Ts.zm (κ:=EK) (kd:=oneType') pl.isList (by lia) hk (fun A' h' kp h2 {Q'} {E'} hq'=>?_) (fun A' E' h' kp=>?_) fun st' hp hs=>?_
 ·rw[Lh hI h2];exact wpAny_pure hq'
 ·refine zo fun x y a b {Q'} {E''} ha hb q=>?_;have sh:∀{v:Value} {n:Int},F5 v=some n->∃t,v=.int n t:=fun {v n} e=>by
   unfold F5 at e;split at e
   ·cases e;exact⟨_,rfl⟩
   ·cases e
  obtain⟨t1,e1⟩:=sh ha;obtain⟨t2,e2⟩:=sh hb;rw[e1,e2,keyLt'_oneType];exact oneLt_int q
 ·obtain⟨out,eo,po,so⟩:=Ii hk hp hs;rw[eo];obtain⟨c,hc⟩:=sortedAll_at s.heap its out.toArray;have vo:∀l:List Value,(∀v∈l,∃n t,v=XW n t)->∃ms:List Int,Vals (ms.map V.int) l/\ms=l.map (fun v=>(F5 v).getD 0):=fun l=>by
   induction l with
   |nil=>intro _;exact⟨[],.nil,rfl⟩
   |cons v l ih=>intro hl';obtain⟨n,t,rfl⟩:=hl' v PU;obtain⟨ms,h1,h2⟩:=ih fun z hz=>hl' z (Ds _ hz);exact⟨n::ms,.cons ⟨t,rfl⟩ h1,by rw[h2];rfl⟩
  obtain⟨ms,hv,em⟩:=vo out fun v hm=>key hI v (po.mem_iff.mp hm);have en:∀{vs:List Value} {ns:List Int},IntsAre vs ns->vs.map (fun v=>(F5 v).getD 0)=ns:=fun {vs}=>by
   induction vs with
   |nil=>intro ns h;cases h;rfl
   |cons v vs ih=>
    intro ns h;cases h with
    |cons n t h'=>rw[gV,ih h'];rfl
  have pm:ms.Perm ns:=by
   have:=po.map (fun v=>(F5 v).getD 0)
   rwa [<- em,en hI]at this
  have hz2:(ms.map V.int).length<=sizeLine:=by rw[Pa,pm.length_eq];rw[Pa]at hz;exact hz
  refine⟨.ref (s.heap.objs.size+1),_,I.laid (t':=s.toks) (fun _ _=>sortedAll_old) (XR _) (show bC X.prog X.w _ _ _ (.lst (ms.map V.int)) from ⟨hz2,out,c,hv,hc⟩),rfl,k ms _ pm ?_ (I.hok.fresh (XR _))⟩;rw[em,WY];refine WX ?_ so;intro x y hx hy hle;obtain⟨n,t,rfl⟩:=key hI x (po.mem_iff.mp hx);obtain⟨m,u,rfl⟩:=key hI y (po.mem_iff.mp hy);exact hle n m rfl rfl
end
theorem BE{H0:Hp}:∀{ds:List Dat} {xs:List V} {nss:List (List Int)},aN H0 xs ds->Dm.Bx ds=some nss->ds=nss.map Dm.Lg/\∀x∈xs,∃(a:Addr) (ks:List Int),x=.ref a/\H0 a=some (.tup (ks.map V.int))/\ks≠[]
 |[],_,nss,r,e=>by cases r;cases e;exact⟨rfl,fun x hx=>by cases hx⟩
 |d::ds,_,nss,r,e=>by
  cases r with
  |cons h t=>
   cases d with
   |tup es=>
    unfold Dm.Bx at e;split at e
    ·rename_i ns en;split at e
     ·cases e
     ·rename_i UN;cases q:Dm.Bx ds with
      |none=>rw[q]at e;cases e
      |some ms=>
       rw[q]at e;cases e;obtain⟨i1,i2⟩:=BE t q;cases h with
       |tup ha hr=>
        have e1:=rC hr en;subst e1;have e2:es=ns.map Dat.int:=by
         have gen:∀(es:List Dat) (ns:List Int),Dm.jA es=some ns->es=ns.map Dat.int:=fun es=>by
          induction es with
          |nil=>intro ns e;cases e;rfl
          |cons d es ih=>
           intro ns e;cases d with
           |int i=>
            unfold Dm.jA at e;cases q:Dm.jA es with
            |none=>rw[q]at e;cases e
            |some ms=>rw[q]at e;cases e;rw[ih _ q];rfl
           |_=>cases e
         exact gen es ns en
        refine⟨by rw[i1,e2];rfl,fun x hx=>?_⟩;rcases Vq.mp hx with rfl | hx
        ·exact⟨_,ns,rfl,ha,fun z=>UN (by rw[z];rfl)⟩
        ·exact i2 x hx
    ·cases e
   |_=>cases e
theorem zp{H0:Hp}:∀{zs:List V} (ks:V->List Int),(∀z∈zs,∃a:Addr,z=.ref a/\H0 a=some (.tup ((ks z).map V.int)))->aN H0 zs ((zs.map ks).map Dm.Lg)
 |[],ks,_=>.nil
 |z::zs,ks,h=>by
  obtain⟨a,rfl,e⟩:=h z PU;refine .cons (.tup e ?_) (zp ks fun y hy=>h y (Ds _ hy));have:∀ns:List Int,aN H0 (ns.map V.int) (ns.map Dat.int):=fun ns=>by
   induction ns with
   |nil=>exact .nil
   |cons n ns ih=>exact .cons (.int n) ih
  exact this _
theorem zq{H0:Hp}:∀ns:List Int,aN H0 (ns.map V.int) (ns.map Dat.int)
 |[]=>.nil
 |n::ns=>.cons (.int n) (zq ns)
theorem F8{K:Dk}:CallD (fun xs H Q=>Ih K xs H Q\/Ig K xs H Q) Dm.kM:=by
 intro H0 H vs ds z Q s rs e k;unfold Dm.kM at e;split at e
 case h_2=>cases e
 split at e
 case isFalse=>cases e
 rename_i xs hz;cases rs with
 |cons r rr=>
  cases rr;obtain⟨a,us,rfl,qa,ra⟩:=cM s r;split at e
  ·rename_i ns en;cases e;have e1:=rC ra en;subst e1;have hl:ns.length=xs.length:=by have:=ra.length;rwa [Pa]at this
   refine .inl ⟨a,ns,rfl,.inl qa,by lia,fun ms l pm so hl=>?_⟩;have es:ms=Dm.rG (fun a b=>decide (a<b)) ns:=Dm.mh (lt:=fun a b:Int=>decide (a<b)) (fun a b h1 h2=>by simp at h1 h2;lia) (pm.trans (Dm.pD _ ns).symm) so (Dm.kN (fun a b c h1 h2=>by simp at *;lia) (fun a b h=>by simp at *;lia) ns);rw[<- es]at k;exact k _ _ _ (aW.wX s hl) ⟨l,rfl,hl,s.free hl,_,aL,zq ms⟩
  ·split at e
   ·rename_i nss en;cases e;obtain⟨e1,e2⟩:=BE ra en;have hl:us.length=xs.length:=ra.length;refine .inr ⟨a,us,rfl,.inl qa,by lia,fun y hy=>?_,fun zs l pm so hl=>?_⟩
    ·obtain⟨b,ks,q1,q2,q3⟩:=e2 y hy;exact⟨b,ks,q1,s _ _ q2,q3⟩
    ·-- the rows of numbers
     let ks:V->List Int:=fun v=>match v with
      | .ref b=>(match H0 b with
       |some (.tup ys)=>(o5 ys).getD []
       |_=>[])
      |_=>[]
     have hks:∀y∈us,∃b:Addr,y=.ref b/\H0 b=some (.tup ((ks y).map V.int)):=fun y hy=>by
      obtain⟨b,ms,rfl,q2,_⟩:=e2 y hy;refine⟨b,rfl,?_⟩;have:ks (.ref b)=ms:=by show (match H0 b with | some (.tup ys)=>(o5 ys).getD [] | _=>[])=ms;rw[q2];dsimp only;rw[iJ];rfl
      rw[this];exact q2
     have hmap:us.map ks=nss:=by
      have gen:∀(us:List V) (nss:List (List Int)),aN H0 us (nss.map Dm.Lg)->us.map ks=nss:=fun us=>by
       induction us with
       |nil=>intro nss r;cases nss with
        |nil=>rfl
        |cons n nss=>cases r
       |cons u us ih=>
        intro nss r;cases nss with
        |nil=>cases r
        |cons n nss=>
         cases r with
         |cons h t=>
          rw[gV,ih nss t]
          congr 1
          have h':Rep H0 u (.tup (n.map Dat.int)):=h;cases h' with
          |tup ha hr=>
           show (match H0 _ with | some (.tup ys)=>(o5 ys).getD [] | _=>[])=n;rw[ha];dsimp only;have dn:Dm.jA (n.map Dat.int)=some n:=by
            have g2:∀n:List Int,Dm.jA (n.map Dat.int)=some n:=fun n=>by
             induction n with
             |nil=>rfl
             |cons m n ih=>rw[gV,Dm.jA,ih];rfl
            exact g2 n
           rw[rC hr dn,iJ];rfl
      exact gen us nss (e1▸ra)
     have srt:(zs.map ks).Pairwise (fun a b=>Dm.lx b a=false):=by rw[WY];refine WX ?_ so;intro x y hx hy hle;obtain⟨b1,q1,q2⟩:=hks x (pm.mem_iff.mp hx);obtain⟨b2,q3,q4⟩:=hks y (pm.mem_iff.mp hy);exact hle b1 b2 _ _ q1 q3 (s _ _ q2) (s _ _ q4)
     have es:zs.map ks=Dm.rG Dm.lx nss:=by
      have p1:=pm.map ks;rw[hmap]at p1;refine Dm.mh (lt:=Dm.lx) Dm.rF (p1.trans (Dm.pD _ nss).symm) srt (Dm.kN (fun a b c h1 h2=>?_) (fun a b h=>?_) nss)
      ·cases h:Dm.lx c a
       ·rfl
       ·rcases Dm.Ie c b a h with z | z
        ·rw[z]at h2;cases h2
        ·rw[z]at h1;cases h1
      ·cases h':Dm.lx b a
       ·rfl
       ·have:=Dm.rE a b a h h';rw[Dm.tO]at this;cases this
     rw[<- es]at k;exact k _ _ _ (aW.wX s hl) ⟨l,rfl,hl,s.free hl,_,aL,zp ks fun z hz=>hks z (pm.mem_iff.mp hz)⟩
   ·cases e
section
variable{X:Cx}{a b c e:Expr}{f fa fb:FE}{fs:List FE}{p pos:Pos}
theorem Ij(hg:Gl X "sorted")(hm:X.mg "sorted" = none)(ha:DA X [e] fs)(he:starEach [e] X.env=[(false,eval e X.env)]:=by rfl)(Nm:(backTo pos (starEach [] X.env)).any (·.1)=false:=by rfl):DE X (.Call (.Name "sorted" p) [e] [] pos) (Dm.eB Dm.kM fs):=KY (Dc.or C_) F8 (by rfl) hg hm ha (he:=he) (Nm:=Nm)
def Se(neg:Bool):R2:=fun x y H Q=>y=.non/\Q (.bl (if neg then !decide (x=V.non) else decide (x=V.non))) H
theorem Li{x:V}{v:Value}(r:RelV x v):(v == Value.none)=decide (x=V.non):=by
 cases x with
 |non=>cases r;rfl
 |bl b=>cases r;rfl
 |int i=>obtain⟨t,rfl⟩:=r;rfl
 |str z=>obtain⟨t,rfl⟩:=r;rfl
 |byt z=>obtain⟨t,rfl⟩:=r;rfl
 |flt z=>obtain⟨t,rfl⟩:=r;rfl
 |ref z=>cases r;rfl
 |ty z=>cases r;rfl
theorem EL{H0 H:Hp}{x:V}{d:Dat}(r:o_ H0 H x d):decide (x=V.non)=Dm.isN d:=by
 rcases r with r | ⟨a,rfl,w⟩
 ·cases r<;>rfl
 ·cases d with
  |non=>exact Vx w
  |_=>rfl
end
section
variable{X:Cx}
def Nh:V->List V->Hp->VK->Prop:=fun x vs H Q=>∃l b xs zs,x=.ref l/\vs=[.ref b]/\H l=some (.lst xs)/\Rd H b (.lst zs)/\xs.length+zs.length<=sizeLine/\Q .non (upd H l (.lst (xs++zs)))
theorem Lj:MtM X "list.extend" Nh:=by
 intro Dz s σ H x vs v us Q I rx rv h;obtain⟨l,b,xs,zs,rfl,rfl,hH,hB,hz,q⟩:=h;cases rx;obtain⟨u,rfl,ru⟩:=rv.one;cases ru;obtain⟨z,its,n,r,hl,e⟩:=I.OA hH;obtain⟨z2,its2,n2,r2,e2⟩:=hB.ok I.hok;have hl2:=r2.length;have tot:its.toArray.size+its2.toArray.size<=sizeLine:=by simp only[Vo];lia
 have short:¬(!its.toArray.isEmpty&&Xg (its.toArray.size+its2.toArray.size))=true:=by rw[A6 tot,Bool.and_false];decide
 refine call_meets F.slot_list_extend ⟨_,e,rfl⟩ F.entry_list_extend (F.args_list_extend_2 _ _) (AutoSeq1.list_extend_list_list_0 l its.toArray n b its2.toArray n2 short (by rw[Vo];lia) (by lia)) ⟨e,e2,?_⟩;exact⟨.non,_,I.Ox (its':=its++its2) hH e (by simp) (r.append r2) (by rw[Vn];lia),rfl,q⟩
end
section
variable{σ:L2.St}{H:Hp}{Q:VK}{D:Ends}
theorem Sf{K:Dk}{i:Nat}{f:FE}(h:tDS (Dm.F7 i f) D σ H):AX (tBM K "list" Nh (yE i) (tDA [f])) D σ H:=by
 obtain⟨H0,ρ,o,st,e,k⟩:=h;unfold Dm.F7 at e;split at e
 case h_2=>cases e
 rename_i ds0 h0;obtain⟨a0,q0,n0,w0⟩:=st.ow i _ h0;refine⟨_,q0,?_⟩;split at e
 ·cases e
 rename_i x ρ1 e1;split at e
 case h_2=>cases e
 rename_i es p1;split at e
 case h_2=>cases e
 rename_i ds h2;split at e
 case isFalse=>cases e
 rename_i hz;cases e;obtain⟨xs0,y0,_⟩:=w0;refine⟨.inl ⟨rfl,xs0,.inl (.inl y0)⟩,?_⟩;refine⟨H0,ρ,[x],ρ1,st,by unfold Dm.eAs;rw[e1];rfl,fun vs H0' H' t r=>?_⟩;cases r with
 |cons r rr=>
  cases rr;obtain⟨b,zs,rfl,qb,rb⟩:=cM t.st.same (r.look t.st p1);obtain⟨a,q,n,w⟩:=t.st.ow i _ h2;rw[q0]at q;cases q;obtain⟨xs,y,rs⟩:=w;refine⟨a0,b,xs,zs,rfl,rfl,y,qb,by rw[rs.length,rb.length];exact Nat.le_trans hz (by decide),?_⟩;have ow:aE σ ρ1 a0:=⟨i,_,h2,q0⟩
  exact k σ H0' _ ⟨t.st.write h2 q0 ⟨_,aL,rs.append rb⟩,t.stp.trans (Stp.write ow) fun b z=>.inl (t.own b z),fun b z=>.inl (t.own b (cZ h2 z)),rfl⟩
theorem xA{α:Type}(l:List α)(i:Nat):l.eraseIdx i=l.take i++l.drop (i+1):=List.eraseIdx_eq_take_drop_succ l i
theorem Dd{H0:Hp}{vs:List V}{ds:List Dat}(i:Nat)(r:aN H0 vs ds):aN H0 (vs.eraseIdx i) (ds.eraseIdx i):=by rw[xA,xA];exact(r.take i).append (r.drop (i+1))
theorem Lk{K:Dk}{i:Nat}{f:FE}(h:tD (Dm.tP i f) σ H Q):tBM K "list" GX (yE i) (tDA [f]) σ H Q:=by
 obtain⟨H0,ρ,x,ρ',st,e,k⟩:=h;unfold Dm.tP at e;split at e
 case h_2=>cases e
 rename_i ds0 h0;obtain⟨a0,q0,n0,w0⟩:=st.ow i _ h0;refine⟨_,q0,?_⟩;obtain⟨xs0,y0,_⟩:=w0;refine⟨.inl ⟨rfl,xs0,.inl (.inl y0)⟩,?_⟩;split at e
 case h_2=>cases e
 rename_i j ρ1 e1;split at e
 case h_2=>cases e
 rename_i ds h2;split at e
 case isFalse=>cases e
 rename_i hb;split at e
 case h_2=>cases e
 rename_i d hd;cases e;refine⟨H0,ρ,[.val (.int j)],ρ1,st,by unfold Dm.eAs;rw[e1];rfl,fun vs H0' H' t r=>?_⟩;cases r with
 |cons r rr=>
  cases rr;cases Rep.isInt r;obtain⟨a,q,n,w⟩:=t.st.ow i _ h2;rw[q0]at q;cases q;obtain⟨xs,y,rs⟩:=w;obtain⟨v,hv,rv⟩:=rs.get hd;have Qc:j.toNat<xs.length:=(Vm.mp hv).1;have hB:Dm.BIG=1000000000:=rfl;refine⟨a0,xs,j,j.toNat,v,rfl,rfl,y,by lia,by lia,?_,hv,?_⟩
  ·unfold seqIndex?;simp only[show ¬j<0 by lia,if_false];rw[if_pos (by rw[decide_eq_true (show 0<=j by lia),decide_eq_true (show j<(xs.length:Int) by lia)];rfl)]
  have ow:aE σ ρ1 a0:=⟨i,_,h2,q0⟩
  have hi:i<ρ1.length:=(Vm.mp h2).1;refine k v H0' _ (t.trans ⟨t.st.write h2 q0 ⟨_,aL,Dd _ rs⟩,Stp.write ow,fun b z=>cZ h2 z,fun j' z=>trivial⟩) rv
end
section
variable{X:Cx}{e:Expr}{f:FE}{pos:Pos}
theorem Sg(i:Nat){x:Str}{px ap cp:Pos}(he:DE X e f)(hi:X.N[i]?=some x:=by rfl)(hv:Vis X.env.scope x:=by trivial)(hd:(x == ("__debug__" : Str))=false:=by decide)
  (SK:(x == ("__classdict__" : Str))=false:=by decide) (Tr:attributeBase (.Name x px) "extend" X.env (eval (.Name x px) X.env)=eval (.Name x px) X.env:=by rfl)
  (hfew:((backTo cp (starEach [e] X.env)).all (fun x=>!x.1)&&(backToKw cp (keywordEach [] X.env)).all (fun x=>x.1.isSome)
   && decide ([e].length+([]:List Keyword).length+(if ([]:List Keyword).isEmpty then 0 else 1)<30))=true:=by rfl)
  (SV:(ap.endLine == cp.line)=true:=by rfl) (hs:starEach [e] X.env=(false,eval e X.env)::starEach [] X.env:=by rfl) (R1:(backTo cp (starEach [] X.env)).any (·.1)=false:=by rfl)
  (hsw:swapsWith (.Call (.Attribute (.Name x px) "extend" ap) [e] [] cp) none pos.line X.env=pure false:=by rfl) :
  DS X (.Expr (.Call (.Attribute (.Name x px) "extend" ap) [e] [] cp) pos) (Dm.F7 i f):=
 PS.weak (qW (El Xk PySem.F.slot_list_extend PySem.F.type_list_extend Lj (kG hi hv hd SK) (af he aG hs) Tr hfew SV hs R1) hsw) fun _ _ _=>Sf
theorem Ll(i:Nat){x:Str}{px ap cp:Pos}(he:DE X e f)(hi:X.N[i]?=some x:=by rfl)(hv:Vis X.env.scope x:=by trivial)(hd:(x == ("__debug__" : Str))=false:=by decide)
  (SK:(x == ("__classdict__" : Str))=false:=by decide) (Tr:attributeBase (.Name x px) "pop" X.env (eval (.Name x px) X.env)=eval (.Name x px) X.env:=by rfl)
  (hfew:((backTo cp (starEach [e] X.env)).all (fun x=>!x.1)&&(backToKw cp (keywordEach [] X.env)).all (fun x=>x.1.isSome)
   && decide ([e].length+([]:List Keyword).length+(if ([]:List Keyword).isEmpty then 0 else 1)<30))=true:=by rfl)
  (SV:(ap.endLine == cp.line)=true:=by rfl) (hs:starEach [e] X.env=(false,eval e X.env)::starEach [] X.env:=by rfl) (R1:(backTo cp (starEach [] X.env)).any (·.1)=false:=by rfl) :
  DE X (.Call (.Attribute (.Name x px) "pop" ap) [e] [] cp) (Dm.tP i f):=
 PE.weak (El Xk PySem.F.slot_list_pop PySem.F.type_list_pop GY (kG hi hv hd SK) (af he aG hs) Tr hfew SV hs R1) fun _ _ _=>Lk
end
end Br
namespace L2
open PySem PySem.Spec PyProof.Rows
def CXE(P:Program)(w:World)(C:Addr):CXT:=fun outer H s E e s'=>
 ∃ea a0 B H',e=.ref ea/\s'.os=s.os/\AllBare s'.gens/\Un (frs outer) [] H H' s.heap s'.heap/\HOk P w H' s'.heap/\Heap.FlyingW B outer ea (.ref C) a0 s'.heap /\
  (∀b o,s'.heap.get? b=some o->(s.heap.get? b).isSome=true\/(H' b).isSome=true->b∉frs outer->B.get? b=some o)/\E (.ref C) (some ea) H'
theorem bC.there{P:Program}{w:World}{H:Hp}{h:Heap}{a:Addr}{o:HO}(x:bC P w H h a o):∃u,h.get? a=some u:=by
 cases o with
 |lst xs=>obtain⟨_,_,_,_,e⟩:=x;exact⟨_,e⟩
 |tup xs=>obtain⟨_,_,_,ob,e,_⟩:=x;exact⟨_,e⟩
 |dK kvs=>obtain⟨_,_,_,_,o,_,_,e,_⟩:=x;exact⟨_,e⟩
 |dT kvs ts=>obtain⟨_,_,_,_,o,_,_,e,_⟩:=x;exact⟨_,e⟩
 |set S n=>obtain⟨o,_,_,_,e,_⟩:=x;exact⟨_,e⟩
 |ins C dx fs=>obtain⟨_,_,_,e,_⟩:=x;exact⟨_,e⟩
 |own y=>obtain⟨_,e⟩:=x;exact⟨_,e⟩
 |xd fs=>obtain⟨_,⟨_,_,_,e,_⟩,_⟩:=x;exact⟨_,e⟩
 |rng lo hi=>obtain⟨_,_,_,e⟩:=x;exact⟨_,e⟩
 |frz ob u=>obtain⟨e,_⟩:=x;exact⟨_,e⟩
 |tbl _ _ _=>obtain⟨_,e,_⟩:=x;exact⟨_,e⟩
 |met f y=>exact⟨_,x⟩
 |ext φ=>obtain⟨_,⟨_,e⟩,_⟩:=x;exact⟨_,e⟩
section
variable{X:Cx}{Dz:List (Addr×Obj)}{σ:St}{H:Hp}{s:Shared}{x:Str}{C:Addr}{bmB:List Value}{B newId initId:String}{np cpos pos:Pos}
theorem F9{t:St->Hp->Prop}(hc:X.calm=true)(hg:Gl X x)(O:OwnCls x C bmB newId X.mg X.base)(FB:ExcBaseFacts B newId initId bmB)
  (hE:∀Dz σ H s h' e,Inv X Dz σ H s->t σ H->Heap.MadeExcOf s.heap h' e (.ref C) []->X.xe (.ref e) { s with heap:=h' }) (SS:(x == ("__debug__" : Str))=false:=by decide) :
  PS X (.Raise (some (.Call (.Name x np) [] [] cpos)) none pos) (fun _ σ H=>t σ H):=by
 intro Dz s σ H D I h;obtain⟨tl,N,nm,q,bs,hdct,sn,sub,ab,col,dd,k0,k1,k2,k3,k5,mN,hC,hN,hni,T⟩:=O.obj;refine wpAny_Raise_call_subT (C:=C) (nm:=nm) (q:=q) (N:=N) (bs:=bs) (bm:=tl) (hdct:=hdct) (sn:=sn) (sub:=sub) (ab:=ab) (col:=col) (dd:=dd) (k0:=k0) (k1:=k1) (k2:=k2) (k3:=k3) (k5:=k5)
  FB (mN:=mN) (T.hasType FB.hasBase) (I.ok.hd hc) rfl hni (qV I hg O.bound ⟨rfl,?_⟩ SS)
 exact evalArgs_empty ⟨rfl,VN _,I.bk _ _ hC,hN.keeps I.bk,T.keeps I.bk,fun h' e hm=>hE Dz σ H s h' e I h hm⟩
theorem Inv.out(I:Inv X Dz σ H s){h'' Bh:Heap}(hx:X.ex=[])(hB:∀b o,s.heap.get? b=some o->b∉frs X.stack->(X.s₀.heap.get? b).isSome=true\/(H b).isSome=true->Bh.get? b=some o)(k1:Bh.StaysIn h'')
  (sl:s.heap.UpToSlots h''):Un X.fs [] X.H₀ H X.s₀.heap h''/\HOk X.prog X.w H h'' /\
   (∀b o,h''.get? b=some o->(X.s₀.heap.get? b).isSome=true\/(H b).isSome=true->b∉X.fs->Bh.get? b=some o):=by
 have nx:∀b:Addr,b∉X.ex:=fun b z=>by rw[hx]at z;cases z
 have neL:∀b o,X.s₀.heap.get? b=some o->b≠X.env.locals:=fun b o e=>VC (Vr (Vl e) I.ok.above);have nst:∀b o,X.s₀.heap.get? b=some o->b∉X.fs->b∉frs X.stack:=fun b o e hb z=>(Vq.mp (I.wJ b z)).elim (neL b o e) hb;have frame:∀b,b∈X.fs->∀o,s.heap.get? b=some o->∃sl,h''.get? b=some { o with slots:=sl }:=fun b hb o e=>by obtain⟨_,o',ho',hd⟩:=I.ve.mem hb;rw[e]at ho';cases ho';exact sl b o e hd
 have stay:∀b o,b∉frs X.stack->(X.s₀.heap.get? b).isSome=true\/(H b).isSome=true->s.heap.get? b=some o->h''.get? b=some o:=fun b o hb hh e=>k1 b o (hB b o e hb hh);have tr:∀b u,H b=some u->b∉frs X.stack:=fun b u e z=>by rw[I.zV b z]at e;cases e
 refine⟨⟨fun b o e n hb _=>?_,fun b o e n hb _=>?_,fun b o e n _=>I.base.free b o e n (nx b),fun b o e _=>?_,I.base.tups,I.base.vc,I.base.wI⟩,fun b u e=>?_,fun b o e hh hb=>?_⟩
 ·exact stay b o (nst b o e hb) (.inl (by rw[e];rfl)) (I.base.keep b o e n hb (nx b))
 ·obtain⟨s1,e1⟩:=I.base.slot b o e n hb (nx b);obtain⟨s2,e2⟩:=frame b hb _ e1;exact⟨s2,e2⟩
 ·obtain⟨o1,e1⟩:=I.base.there b o e (nx b);by_cases hb:b∈X.fs
  ·obtain⟨s2,e2⟩:=frame b hb _ e1;exact⟨_,e2⟩
  ·exact⟨o1,stay b o1 (nst b o e hb) (.inl (by rw[e];rfl)) e1⟩
 ·refine(I.hok b u e).stay (fun c v hc q=>?_) (fun _ q=>q) (fun _ _ _ q=>q) fun _ _ q=>q;rcases hc with rfl | hc
  ·exact stay c v (tr c u e) (.inr (by rw[e];rfl)) q
  ·exact stay c v (tr c _ hc) (.inr (by rw[hc];rfl)) q
 ·have:∃o1,s.heap.get? b=some o1:=by
   rcases hh with hh | hh
   ·obtain⟨o0,e0⟩:=VP.mp hh;exact I.base.there b o0 e0 (nx b)
   ·obtain⟨u,e0⟩:=VP.mp hh;exact(I.hok b u e0).there
  obtain⟨o1,e1⟩:=this;have hs:b∉frs X.stack:=by
   rcases hh with hh | hh
   ·obtain⟨o0,e0⟩:=VP.mp hh;exact nst b o0 e0 hb
   ·obtain⟨u,e0⟩:=VP.mp hh;exact tr b u e0
  have e2:=stay b o1 hs hh e1;rw[e]at e2;cases e2;exact hB b o e1 hs hh
end
section
variable{P:Program}{w:World}{K:Dk}{mg:Str->Option Value}{base:Heap}{N:List Str}{qual:Str}{scope:Scope}{f:Addr}{cd:Value}{A:Around}{outer:List Env}{s₀:Shared}{H₀:Hp}{E:XK}{C:Addr}
 {Dz:List (Addr×Obj)} {σ:St} {H:Hp} {s:Shared}
theorem Lm{h h' h'':Heap}(k:∀b o,h.get? b=some o->h'.get? b=some o)(x:h'.UpToSlots h''):h.UpToSlots h'':=(Heap.UpToSlots.of_keeps k).trans x
theorem Ln(I:Inv (lQ (CXE P w C) P w K mg base N qual scope f cd A outer s₀ H₀ E) Dz σ H s){h':Heap}{e:Addr}(hx:Heap.MadeExcOf s.heap h' e (.ref C) [])(hE:E (.ref C) (some e) H) :
  (lQ (CXE P w C) P w K mg base N qual scope f cd A outer s₀ H₀ E).xe (.ref e) { s with heap:=h' }:=by
 have hin:∀env∈(lQ (CXE P w C) P w K mg base N qual scope f cd A outer s₀ H₀ E).stack,∀b,env.frame=some b->b∈frs (lQ (CXE P w C) P w K mg base N qual scope f cd A outer s₀ H₀ E).stack:=fun env he b hb=>XD.mpr ⟨env,he,hb⟩;show wpAny (model P w) _ (leaving _ (.ref e)) _ _ _;refine wpAny_leaves_madeW (base:=YE s.heap (frs (lQ (CXE P w C) P w K mg base N qual scope f cd A outer s₀ H₀ E).stack)) (h:=s.heap) (L:=s₀.heap.objs.size) I.ok.frames rfl (fun b o q=>PySem.W.of_hideAll _ q) (PySem.W.funFrames_hide I.stack hin) hx fun h'' t fl tup bt sl=>?_;obtain⟨u1,u2,u3⟩:=I.out (h'':=h'') (Bh:=YE s.heap (frs (lQ (CXE P w C) P w K mg base N qual scope f cd A outer s₀ H₀ E).stack)) rfl (fun b o q hb _=>PySem.W.hideAll_get _ q hb) fl.1 (Lm hx.keeps sl);exact⟨e,.ref t,_,H,rfl,I.os,I.bare,u1,u2,fl,u3,hE⟩
theorem Sh:Passes (CXE P w C) (lQ (CXE P w C) P w K mg base N qual scope f cd A outer s₀ H₀ E) E:=by
 intro Dz σ H s e s' I hq;obtain⟨ea,a0,Bh,H',rfl,os,bare,un,hok,fl,hB,hE⟩:=hq;obtain⟨hh,g,d,t,os'⟩:=s';obtain rfl:os'=s.os:=os;have J:=I.call (h':=hh) (g':=g) (d':=d) (t':=t) (ch:=[]) un hok bare (fun b z=>absurd z (by simp));show wpAny (model P w) _ (leaving _ (.ref ea)) _ _ _;refine wpAny_leaves_onW (base:=Bh) (L:=s₀.heap.objs.size) I.ok.frames rfl fl fun h'' Si sl=>?_;have neL:∀b o,s₀.heap.get? b=some o->∃o1,s.heap.get? b=some o1:=fun b o e=>I.base.there b o e (fun z=>nomatch z);obtain ⟨u1,u2,u3⟩:=J.out (h'':=h'') (Bh:=Bh) rfl (fun b o q hb hh=>hB b o q (hh.imp (fun z=>by obtain⟨o0,e0⟩:=VP.mp z;obtain⟨o1,e1⟩:=neL b o0 e0;rw[e1];rfl) id) hb) Si.1 sl
 exact⟨ea,a0,Bh,H',rfl,J.os,bare,u1,u2,Si,u3,hE⟩
end
section
variable{X:Cx}{st:Stmt}{Nl:List Stmt}{t:TS}
noncomputable def DF:Ends:={ nx:=fun _ _=>False,rt:=fun _ _=>False,bk:=fun _ _=>False,ct:=fun _ _=>False }
theorem Ik(h1:PS X st t):PSs X (st::Nl) (fun _ σ H=>t DF σ H):=by
 intro Dz s σ H D I h;refine wpAny_execs_cons (thn (h1 Dz s σ H DF I h) fun f s1 q=>?_);cases f with
 |next=>obtain⟨_,_,_,q⟩:=q;exact Vx q
 |ret v=>obtain⟨_,_,_,_,_,q⟩:=q;exact Vx q
 |brk=>obtain⟨_,_,_,q⟩:=q;exact Vx q
 |cont=>obtain⟨_,_,_,q⟩:=q;exact Vx q
end
end L2
namespace Br
open PySem PySem.Spec PyProof.Rows L2
def EM(C:Addr)(X:Cx)(E:L2.St->XK):Prop:=∀(Dz:List (Addr×Obj)) (σ:L2.St) (H:Hp) (s:Shared) (e:Value) (s':Shared),Inv X Dz σ H s->CXE X.prog X.w C X.stack H s (E σ) e s'->X.xe e s'
def tX(C:Addr)(E:L2.St->XK)(R:Dm.Env->Option Dm.Env)(σ:L2.St)(H:Hp):Prop:=∃H0 ρ ρ',aM H0 H σ ρ/\R ρ=some ρ'/\∀a H0' H',ESt σ ρ H0 H ρ' H0' H'->E σ (.ref C) (some a) H'
def spX(C:Addr)(bad:List Dat->Bool):Sp:=fun vs H _ E=>∃H0 ds,aJ H0 H/\aN H0 vs ds/\bad ds=true/\∀a H0' H',aW H0 H H0' H'->E (.ref C) (some a) H'
noncomputable abbrev XE(X:Cx)(C:Addr)(E:L2.St->XK)(e:Expr)(R:Dm.Env->Option Dm.Env):Prop:=PE X e (fun σ H _=>tX C E R σ H)
noncomputable abbrev XS(X:Cx)(C:Addr)(E:L2.St->XK)(st:Stmt)(R:Dm.Env->Option Dm.Env):Prop:=PS X st (fun _ σ H=>tX C E R σ H)
section
variable{X:Cx}{C:Addr}{E:L2.St->XK}{k:Nat}{F:Addr}{fd:FuncData}{ps:List Str}{x:Str}{p pos:Pos}{e:Expr}{es:List Expr}{fs:List FE}{bad:List Dat->Bool}{R S:Dm.Env->Option Dm.Env}
theorem Lo{Dz:List (Addr×Obj)}{σ:L2.St}{H:Hp}{s:Shared}{Q:VK}{us:List Value}{vs:List V}(G:ck X.prog X.w X.K X.mg X.base (CXE X.prog X.w C) k F fd ps (spX C bad))(hr:bP k X.A)(hb:Binds X.K fd ps [])(hx:EM C X E)
  (I:Inv X Dz σ H s) (r:Vals vs us) (h:spX C bad vs H Q (E σ)):wpAny (model X.prog X.w) X.A (call (.ref F) us) (EP X Dz σ Q) X.xe s:=by
 have hl:(us++[]).length=ps.length:=by rw[VQ,<- r.length];exact G.len _ _ _ _ h
 have hb':=hb s us I.kIn hl;rw[VQ]at hb';refine wpAny_call (codeAny_mono (G.run X.A X.stack s H ⟨us,[]⟩ us vs Q (E σ) hr I.Rb hb' r h) fun r s' hq=>?_);cases r with
 |error e=>exact hx Dz σ H s e s' I hq
 |ok fl=>
  cases fl with
  |ret u=>exact I.after hq
  |next=>exact Vx hq
  |brk=>exact Vx hq
  |cont=>exact Vx hq
theorem Lp{σ:L2.St}{H:Hp}(h:tX C E (Dm.xy bad fs) σ H)(Q:VK):tDA fs σ H fun vs H1=>spX C bad vs H1 Q (E σ):=by
 obtain⟨H0,ρ,ρ',st,hR,k⟩:=h;unfold Dm.xy at hR;split at hR
 ·cases hR
 rename_i xs ρ1 e1;split at hR
 ·cases hR
 rename_i ds p1;split at hR
 case isFalse=>cases hR
 rename_i hbad;cases hR;refine⟨H0,ρ,xs,ρ',st,e1,fun vs H1 Hb t1 r1=>?_⟩;obtain⟨ρ2,e2⟩:=pA p1;obtain⟨H2,t2,b2,r2⟩:=takes t1 (aJ.refl _) r1 e2;exact⟨H2,ds,t2.st.same,r2,hbad,fun a H0' H' g=>k a H1 H' (t1.trans (.grow t1.st ⟨aJ.refl _,g.s1,fun a o q=>.inr q,t1.st.same.trans g.s1⟩))⟩
theorem x_call(G:ck X.prog X.w X.K X.mg X.base (CXE X.prog X.w C) k F fd ps (spX C bad))(hr:bP k X.A)(hg:Gl X x)(hm:X.mg x=some (.ref F))(hk:Wc X.K (.ref F)=true)(hb:Binds X.K fd ps [])(hx:EM C X E)
  (ha:DA X (e::es) fs) (SS:(x == ("__debug__" : Str))=false:=by decide) (he:starEach (e::es) X.env=(false,eval e X.env)::starEach es X.env:=by rfl) (Nm:(backTo pos (starEach es X.env)).any (·.1)=false:=by rfl) :
  XE X C E (.Call (.Name x p) (e::es) [] pos) (Dm.xy bad fs):=by
 intro Dz s σ H Q I h;refine wpAny_Call_Name_kw (qV I hg hm ?_ SS);refine PySem.W.callWith_K (h₀:=X.base) I.ok.mod.kin hk (thn (ha pos Dz s σ H _ I (Lp h Q)) fun us s1 ⟨vs,H1,I1,r,q⟩=>⟨I1.kIn,?_⟩) he Nm;exact Lo G hr hb hx I1 r q
theorem Il(h:XE X C E e R)(hs:swapsWith e none pos.line X.env=pure false:=by rfl):XS X C E (.Expr e pos) R:=PS.weak (qW h hs) fun _ _ _ q=>q
end
section
variable{P:Program}{w:World}{K:Dk}{mg:Str->Option Value}{base:Heap}{N:List Str}{qual:Str}{scope:Scope}{f:Addr}{cd:Value}{A:Around}{outer:List Env}{s₀:Shared}{H₀:Hp}{E:XK}{C:Addr}
theorem Sj:EM C (lQ (CXE P w C) P w K mg base N qual scope f cd A outer s₀ H₀ E) (fun _=>E):=fun Dz σ H s e s' I q=>Sh Dz σ H s e s' I q
theorem x_raise{x:Str}{bmB:List Value}{B newId initId:String}{np cpos pos:Pos}(O:OwnCls x C bmB newId mg base)(FB:ExcBaseFacts B newId initId bmB)(hg:Gl (lQ (CXE P w C) P w K mg base N qual scope f cd A outer s₀ H₀ E) x)(SS:(x == ("__debug__" : Str))=false:=by decide) :
  XS (lQ (CXE P w C) P w K mg base N qual scope f cd A outer s₀ H₀ E) C (fun _=>E) (.Raise (some (.Call (.Name x np) [] [] cpos)) none pos) Dm.Sd:=
 F9 rfl hg O FB (fun Dz σ H s h' e I ⟨H0,ρ,ρ',st,hR,k⟩ hm=>Ln I hm (k e _ _ (by cases hR;exact ESt.refl st))) SS
end
theorem EN{C:Addr}{n m:Nat}{R:Dm.Env->Option Dm.Env}{vs:List V}{H:Hp}{Q:VK}{E:XK}(h:spX C (Dm.fnX n m R) vs H Q E):vs.length=n:=by obtain⟨H0,ds,s,rs,e,k⟩:=h;unfold Dm.fnX at e;rw[Vv,decide_eq_true_eq]at e;rw[rs.length];exact e.1
theorem Im{N:List Str}{n m:Nat}{vs:List V}{H0 H:Hp}{ds:List Dat}(hm:N.length=n+m)(hvn:vs.length=n)(s:aJ H0 H)(rs:aN H0 vs ds) :
  aM H0 H (start N vs) (ds.map Dm.Cell.sh++Dp m .un)/\∀a,¬aE (start N vs) (ds.map Dm.Cell.sh++Dp m .un) a:=by
 have hl:=rs.length;refine ⟨?_,fun a ⟨i,d,h1,_⟩=>by
  by_cases hi:i<ds.length
  ·rw[Vi (by simpa using hi),VH]at h1;cases q:ds[i]? with
   |none=>rw[q]at h1;cases h1
   |some y=>rw[q]at h1;cases h1
  ·rw[Vs (by simpa using hi),VR]at h1;split at h1<;>cases h1⟩
 refine⟨s,?_,fun i d h=>?_,fun i d h=>?_,fun i j d e a h1 h2 _ _=>?_⟩
 ·unfold L2.start;simp only[Vn,Pa,W3]
  lia
 ·have hi:i<ds.length:=by
   by_cases hi:i<ds.length
   ·exact hi
   ·rw[Vs (by simpa using hi),VR]at h;split at h<;>cases h
  rw[Vi (by simpa using hi),VH]at h;cases q:ds[i]? with
  |none=>rw[q]at h;cases h
  |some y=>rw[q]at h;cases h;obtain⟨v,hv,r⟩:=rs.get q;refine⟨v,?_,r⟩;unfold L2.start;rw[Vi (by simpa [hl] using hi),VH,hv];rfl
 ·by_cases hi:i<ds.length
  ·rw[Vi (by simpa using hi),VH]at h;cases q:ds[i]? with
   |none=>rw[q]at h;cases h
   |some y=>rw[q]at h;cases h
  ·rw[Vs (by simpa using hi),VR]at h;split at h<;>cases h
 ·by_cases hi:i<ds.length
  ·rw[Vi (by simpa using hi),VH]at h1;cases q:ds[i]? with
   |none=>rw[q]at h1;cases h1
   |some y=>rw[q]at h1;cases h1
  ·rw[Vs (by simpa using hi),VR]at h1;split at h1<;>cases h1
end Br
namespace PySem.W
open PySem PySem.Spec PySem.Calls PyProof.Rows
structure pF(K:Frag)(C:Addr):Prop where
 ga:findIn K (.ref C) "__getattribute__" = some (some (.builtin "BaseException.__getattribute__"))
 gn:findIn K (.ref C) "__getattr__" = some none
 cl:findIn K (.ref C) "__class__" = some (some (.builtin "object.__class__"))
 mB:mroIn K C (.type "BaseException")=some true
 mO:mroIn K C (.type "object")=some true
def yM(x C:Addr)(h:Heap):Prop:=∃ox,h.get? x=some ox/\ox.cls=.ref C
theorem ou{x C:Addr}{M:Model}{h:Heap}(p:yM x C h):Looks M h (typeOf (.ref x)) (.ref C):=by obtain⟨o,h1,h2⟩:=p;exact h2▸(Looks.ld h1).andThen .now
section
variable{prog:Program}{w:World}{A:Around}{K:Frag}{x C:Addr}{s:Shared}{R:Result->Shared->Prop}
theorem De{tp:Value}(X:K.In s.heap)(I:yM x C s.heap)(hm:mroIn K C (.type "object")=some true)
  (h:R (.ok (.ret (.ref C))) s):codeAny (model prog w) A (.call (.builtin "getset_descriptor.__get__") ⟨[.builtin "object.__class__",.ref x,tp],[]⟩) R s:=by
 obtain⟨hh,g,dr,t,os⟩:=s;have L0:=ou (M:=model prog w) I;have L1:=looks_mroIn (M:=model prog w) X hm;refine codeAny_call_builtin KF.slot_gs.plain KF.entry_gs (KF.slot_gs.check _ _ _ _ _ _ _ _ KF.type_class (KF.args_gs _ _ _) ?_);unfold Builtin.«getset_descriptor.__get__» Builtin.Getset_descriptor.descrGet;rw[dga_obj];refine wpAny_bind (wpAny_pure ?_);unfold Builtin.Getset_descriptor.descrGetter Builtin.Getset_descriptor.descrCheckInstance Builtin.Getset_descriptor.descrNameAndClass isInstance;simp only[KF.owner_class]
 repeat lk
 refine⟨Code.quiet_builtin _ (by decide +kernel),codeAny_builtin KF.entry_class ?_⟩;unfold Builtin.«object.__class__» shownTypeOf
 repeat lk
 exact h
end
section
variable{prog:Program}{w:World}{A:Around}{E:Value->Shared->Prop}{K:Frag}{x C:Addr}{ox:Obj}{h:Heap}{g:Array GenState}{d:Drawn}{t:Nat}{os:OsState}
theorem Io{M:Model}{nameV:Value}{Q:Unit->Shared->Prop}(Z:pF K C)(X:K.In h)(I:yM x C h)(hq:Q () ⟨h,g,d,t,os⟩):wpAny M A (checkBuiltinCall "BaseException.__getattribute__" ⟨[.ref x,nameV],[]⟩) Q E ⟨h,g,d,t,os⟩:=by
 have hk:builtinKind "BaseException.__getattribute__" = some .slot:=by decide +kernel
 have hsplit:splitId "BaseException.__getattribute__" = some ("BaseException","__getattribute__"):=by decide +kernel
 have L0:=ou (M:=M) I;have L1:=looks_mroIn (M:=M) X Z.mB;have LI:Looks M h (isInstance (.ref x) (.type "BaseException")) true:=L0.andThen L1;have ha:=PySem.F.args_bexc_ga (.ref x) nameV;simp only[checkBuiltinCall,hk,hsplit];refine wpAny_bind (LI.at ?_)
 repeat (first | assumption | wp_step)
theorem Ip{tk:Tok}{Q:Fin->Shared->Prop}(Z:pF K C)(X:K.In h)(I:yM x C h)(hq:Q (.done (.ret (.ref C))) ⟨h,g,d,t,os⟩) :
  wpAny (model prog w) A (Builtin.«object.__getattribute__» ⟨[.ref x,.str "__class__" tk],[]⟩) Q E ⟨h,g,d,t,os⟩:=by
 have hT5:(⟨h,g,d,t,os⟩:Shared).TypeIs (.builtin "object.__class__") "getset_descriptor" := F.typeOf_object_class;have f5:=F.typeOf_object_class;have f6:=F.slot_gs_get.lookup;have f7:=F.slot_gs_set.lookup;have L0:=ou (M:=model prog w) I;have L1:=looks_findIn (M:=model prog w) X Z.cl
 repeat (any_goals (first | assumption | with_reducible refine L0.at ?_ | with_reducible refine L1.at ?_ | wp_step))
 refine De X I Z.mO ?_
 repeat (any_goals (first | assumption | wp_step))
theorem Lq{tk:Tok}{R:Result->Shared->Prop}(Z:pF K C)(X:K.In h)(I:yM x C h)(hq:R (.ok (.ret (.ref C))) ⟨h,g,d,t,os⟩) :
  codeAny (model prog w) A (.call (.builtin "BaseException.__getattribute__") ⟨[.ref x,.str "__class__" tk],[]⟩) R ⟨h,g,d,t,os⟩:=
 codeAny_call_builtin PySem.F.excAttr_ValueError.ga.plain PySem.F.entry_bexc_ga (Io Z X I (Ip Z X I hq))
theorem Sk{tk:Tok}{Q:Value->Shared->Prop}(Z:pF K C)(X:K.In h)(I:yM x C h)(hq:Q (.ref C) ⟨h,g,d,t,os⟩) :
  wpAny (model prog w) A (getAttrBy (.ref x) (.str "__class__" tk) false) Q E ⟨h,g,d,t,os⟩:=by
 have f3:=PySem.F.excAttr_ValueError.ga.bind (.ref x);have hx2:(Ym "BaseException.__getattribute__" == Ym "object.__getattribute__")=false:=by decide +kernel
 have hx1:(onTheHeap (VF C)&&Ym "BaseException.__getattribute__" == Ym "object.__getattribute__")=false:=by rw[hx2];rfl
 have L0:=ou (M:=model prog w) I;have L1:=looks_findIn (M:=model prog w) X Z.ga;have L2:=looks_findIn (M:=model prog w) X Z.gn
 repeat (any_goals (first | assumption | with_reducible refine L0.at ?_ | with_reducible refine L1.at ?_ | with_reducible refine L2.at ?_ | wp_step))
 refine Lq Z X I ?_
 repeat (any_goals (first | assumption | wp_step))
theorem Lr{s:Shared}{Q:Option Value->Shared->Prop}(Z:pF K C)(X:K.In s.heap)(I:yM x C s.heap)(hq:Q (some (.ref C)) { s with toks:=s.toks+1 }):wpAny (model prog w) A (getAttr? (.ref x) "__class__") Q E s:=by
 obtain⟨h,g,d,t,os⟩:=s;unfold getAttr? getAttrBy?
 repeat (any_goals (first | assumption | with_reducible apply Sk Z X I | wp_step))
theorem Iq(Z:pF K C)(hc:(clsIn K C).isSome=true):KitX K (.ref x) (.ref C) (yM x C) where
 ty:=fun _ _ _ I=>ou I
 it:=fun _ _ X _=>by
  unfold clsIn at hc;split at hc
  ·rename_i c' d' cd' sl' ho;intro A' Q' E' s' k q;unfold isType loadHead;exact wpAny_bind (wpAny_loadPart (k _ _ (X _ _ ho)) (wpAny_pure q))
  ·cases hc
 ne:=fun h tp dd its n sl X htp=>by
  refine Ys.mpr fun q=>?_;have e:C=tp:=VF.inj (beq_iff_eq.mp q);subst e;unfold clsIn at hc;split at hc
  ·rename_i c' d' cd' sl' ho;have z:=(X _ _ ho).symm.trans htp;cases z
  ·cases hc
 ca:=fun X I k=>Lr Z X I k
end
end PySem.W
namespace PySem
theorem uV{α:Type}(p:α->Bool):∀(l:List α) (i:Nat) (x:α),l[i]?=some x->p x=false->(l.eraseIdx i).find? p=l.find? p
 |[],i,x,h,_=>by simp at h
 |y::l,0,x,h,hp=>by simp only[XJ,Option.some.injEq]at h;subst h;rw[List.eraseIdx_cons_zero,Wg,hp]
 |y::l,i+1,x,h,hp=>by rw[List.eraseIdx_cons_succ,Wg,Wg,uV p l i x (by simpa using h) hp]
theorem yN{es:Array DictEntry}{i:Nat}{name y:Str}(hi:es.findIdx? (·.key.isStr name)=some i)(hy:y≠name):nsFind (es.eraseIdxIfInBounds i) y=nsFind es y:=by
 obtain⟨Qc,hp,_⟩:=Array.findIdx?_eq_some_iff_getElem.mp hi;have hq:(es[i]).key.isStr y=false:=by
  cases hk:(es[i]).key with
  |str z t=>rw[hk]at hp;simp only[YR,beq_iff_eq]at hp;simp only[YR,beq_eq_false_iff_ne];intro e;exact hy (e.symm.trans hp)
  |_=>rw[hk]at hp;simp[YR]at hp
 have h2:(es.eraseIdxIfInBounds i).toList=es.toList.eraseIdx i:=by unfold XH;rw[dif_pos Qc,Array.toList_eraseIdx]
 unfold nsFind findBy;rw[<- X8,<- X8,h2,uV _ _ i es[i] (by rw[V4,Xe Qc]) hq]
section
variable{M:Model}{A:Around}{E:Value->Shared->Prop}{s:Shared}{env:Env}
theorem Al{a:Addr}{m}{name:Str}{Q:Bool->Shared->Prop}(hn:s.heap.Ns a m)
  (hQ:∀h' m',h'.Ns a m'->(∀y,y≠name->m' y=m y)->WS a s.heap h'->Q (m name).isSome { s with heap:=h' }):wpAny M A (nsDel a name) Q E s:=by
 obtain⟨o,es,ep,ho,hd,hk,hm⟩:=id hn;have hany:es.any (·.refKey)=false:=by rw[Array.any_eq_false'];intro e he;obtain⟨n,t,h⟩:=hk e he;simp[DictEntry.refKey,h]
 have hsome:(m name).isSome=es.any (·.key.isStr name):=by
  rw[<- hm name];simp only[nsFind,findBy,WK];rw[YH];simp only[Array.find?_isSome,Array.any_eq_true];constructor
  ·rintro⟨x,hx,hp⟩;obtain⟨i,hi,rfl⟩:=Array.mem_iff_getElem.mp hx;exact⟨i,hi,hp⟩
  ·rintro⟨i,hi,hp⟩;exact⟨_,Array.getElem_mem hi,hp⟩
 have hhas:nsHas name o=pure (es.any (·.key.isStr name)):=by
  rw[nsHas_eq];unfold nsHasByArray;rw[hd];show (if (es.any fun x=>x.key.isStr name)=true then _ else _)=_
  generalize (es.any fun x=>x.key.isStr name)=b
  cases b<;>simp[hany]
 unfold nsDel;refine wpAny_bind (wpAny_loadPart ho ?_);rw[hhas];refine wpAny_bind (wpAny_pure ?_);rw[<- hsome];cases hmn:(m name).isSome
 ·have:=hQ s.heap m hn (fun _ _=>rfl) (.refl ..);rw[hmn]at this;exact wpAny_pure this
 ·refine wpAny_bind (wpAny_updatePart ho (wpAny_pure ?_));have key:∃m',(s.heap.update a (Obj.dropName name)).Ns a m'/\∀y,y≠name->m' y=m y:=by
   obtain⟨cl,d,dt,sl⟩:=o;subst hd;cases hi:es.findIdx? (·.key.isStr name) with
   |some i=>exact⟨nsFind (es.eraseIdxIfInBounds i),⟨_,_,ep+1,WQ _ ho (by simp only[X4,Xx,hi]<;>rfl),(by simp only[X4,Xx,hi]<;>rfl),hk.erase i,fun _=>rfl⟩,fun y hy=>by rw[yN hi hy,hm]⟩
   |none=>exact⟨nsFind es,⟨_,_,ep,WQ _ ho (by simp only[X4,Xx,hi]<;>rfl),(by simp only[X4,Xx,hi]<;>rfl),hk,fun _=>rfl⟩,fun y _=>hm y⟩
  obtain⟨m',hm',hy⟩:=key;have:=hQ _ m' hm' hy (WN ..);rw[hmn]at this;exact this
theorem vn{n:Str}{pos:Pos}{m:Str->Option Value}{Q:Unit->Shared->Prop}(hl:env.kindOf n=some .local)(hn:s.heap.Ns env.locals m)
  (hp:(env.scope.kind == .class||(env.scope.kind == .module&&env.locals != env.globals))=false)
  (h:∀h' m',h'.Ns env.locals m'->(∀y,y≠n->m' y=m y)->WS env.locals s.heap h'->Q () { s with heap:=h',toks:=s.toks+1 }) :
  wpAny M A (do bindName env n .none;unbindBehindTheSuite env n pos) Q E s:=by
 refine wpAny_bind (wpAny_bindName (wpAny_storeName_local hl hn (fun h₁ hn₁ hs₁=>?_) hp));unfold unbindBehindTheSuite;refine wpAny_onRaise ?_;unfold unbindName;refine wpAny_bind (wpAny_point (wpAny_bind ?_));unfold deleteName;simp only[hl,hp];rw[if_neg (by decide)];refine wpAny_bind (Al hn₁ fun h₂ m₂ hn₂ hy hs₂=>?_);simp only[if_true,Yc,Bool.not_true,V3,if_false];exact wpAny_pure (wpAny_point (h h₂ m₂ hn₂ (fun y hny=>(hy y hny).trans (if_neg hny)) (hs₁.trans hs₂)))
end
end PySem
namespace PySem.W
open PySem PySem.Spec PySem.Calls PyProof.Rows
structure Am(K:Frag)(C CP:Addr):Prop where
 ty:typeIn K (.ref CP)=some (.type "type")
 cl:(clsIn K CP).isSome=true
 mB:mroIn K CP (.type "BaseException")=some true
 mP:mroIn K C (.ref CP)=some true
theorem BF{M:Model}{A:Around}{E:Value->Shared->Prop}{K:Frag}{x C CP:Addr}{h:Heap}{g:Array GenState}{d:Drawn}{t:Nat}{os:OsState}{Q:Bool->Shared->Prop}
  (Z:Am K C CP) (X:K.In h) (I:yM x C h) (hq:Q true ⟨h,g,d,t,os⟩):wpAny M A (excMatches (.ref x) (.ref CP)) Q E ⟨h,g,d,t,os⟩:=by
 have L0:=ou (M:=M) I;have L1:=looks_typeIn (M:=M) X Z.ty;have L2:=looks_mroIn (M:=M) X Z.mB;have L3:=looks_mroIn (M:=M) X Z.mP;have L4:Looks M h (isType (.ref CP)) true:=by
  have hc:=Z.cl;unfold clsIn at hc;split at hc
  ·rename_i c' d' cd' sl' ho;intro A' Q' E' s' k q;unfold isType loadHead;exact wpAny_bind (wpAny_loadPart (k _ _ (X _ _ ho)) (wpAny_pure q))
  ·cases hc
 have LT:Looks M h (isSubtype (.type "type") (.type "tuple")) false:=Looks.of_pure tc_notTuple;unfold excMatches isInstance
 repeat lk
 exact hq
end PySem.W
namespace L2
open PySem PySem.Spec PyProof.Rows
section
variable{X:Cx}{Dz:List (Addr×Obj)}{σ:L2.St}{H:Hp}{s:Shared}
theorem Inv.fly(I:Inv X Dz σ H s){h'' B:Heap}{t':Nat}(hx:X.ex=[])(hB:∀b o,s.heap.get? b=some o->b∉frs X.stack->((X.s₀.heap.get? b).isSome=true\/(H b).isSome=true\/∃p∈X.pn++Dz,p.1=b)->B.get? b=some o)
  (k1:B.StaysIn h'') (sl:s.heap.UpToSlots h''):Inv X Dz σ H { s with heap:=h'',toks:=t' }:=by
 obtain⟨u1,u2,_⟩:=I.out (h'':=h'') (Bh:=B) hx (fun b o e hb hh=>hB b o e hb (hh.imp id .inl)) k1 sl;have cellK:∀c v,s.heap.IsCell c v->h''.IsCell c v:=fun c v ⟨o,ho,hd⟩=>by
  obtain⟨sl',e⟩:=sl c o ho fun vs q=>by rw[hd]at q;cases q
  exact⟨_,e,hd⟩
 refine⟨I.ok,I.os,I.bare,by rw[hx];exact u1,?_,fun x c e=>?_,I.free,I.iY,fun p hp=>?_,u2,I.len⟩
 ·obtain⟨m,hn,hl⟩:=I.loc;refine⟨m,sl.ns hn,fun i x v e1 e2 e3=>?_⟩;obtain⟨u,r,l⟩:=hl i x v e1 e2 e3;refine⟨u,r,?_⟩;rcases l with l | ⟨k,c,e,z⟩
  ·exact .inl l
  ·exact .inr ⟨k,c,e,cellK c _ z⟩
 ·obtain⟨v,z⟩:=I.cell x c e;exact⟨v,cellK c v z⟩
 ·obtain⟨e,n,ne,nf,d⟩:=I.pin p hp;exact⟨k1 _ _ (hB p.1 p.2 e (fun z=>(Vq.mp (I.wJ _ z)).elim ne nf) (.inr (.inr ⟨p,hp,rfl⟩))),n,ne,nf,d⟩
theorem Inv.Sm(I:Inv X Dz σ H s){ea:Addr}{o:HO}(n:H ea=none)(hok:bC X.prog X.w (upd H ea o) s.heap ea o)(n0:X.s₀.heap.get? ea=none)(nl:ea≠X.env.locals)(nc:∀x c,X.env.cells.lookup x=some c->c≠ea)
  (np:∀p∈X.pn++Dz,p.1≠ea):Inv X Dz σ (upd H ea o) s:=by
 have ne:∀b u,H b=some u->b≠ea:=fun b u e z=>by rw[z,n]at e;cases e
 have n1:∀b u,X.s₀.heap.get? b=some u->b≠ea:=fun b u e z=>by rw[z,n0]at e;cases e
 refine⟨I.ok,I.os,I.bare,⟨I.base.keep,I.base.slot,fun b u e q hx=>?_,I.base.there,fun b xs e=>?_,fun b u v e=>?_,fun b x1 x2 x3 e=>?_⟩,I.loc,I.cell,?_,fun x c e=>?_,fun p hp=>?_,fun b u e=>?_,I.len⟩
 ·rw[aH (n1 b u e)];exact I.base.free b u e q hx
 ·have:=I.base.tups b xs e;rw[aH (ne b _ this)];exact this
 ·have:=I.base.vc b u v e;rw[aH (ne b _ this)];exact this
 ·have:=I.base.wI b _ _ _ e;rw[aH (ne b _ this)];exact this
 ·rw[aH (VS nl)];exact I.free
 ·rw[aH (nc x c e)];exact I.iY x c e
 ·obtain⟨e,q,a,b,d⟩:=I.pin p hp;exact⟨e,by rw[aH (np p hp)];exact q,a,b,d⟩
 ·by_cases hb:b=ea
  ·subst hb;rw[aL]at e;cases e;exact hok
  ·rw[aH hb]at e;exact(I.hok b u e).stay (fun c v _ q=>q) (fun c q=>by rw[aH (ne c _ q)];exact q) (fun c _ _ q=>by rw[aH (ne c _ q)];exact q) fun c xs q=>by rw[aH (ne c _ q)];exact q
theorem name_goes{M:Model}{A:Around}{E:Value->Shared->Prop}{i:Nat}{n:Str}{pos:Pos}{Q:Unit->Shared->Prop}(I:Inv X Dz σ H s)(hN:X.N.Nodup)(hi:X.N[i]?=some n)(hk:X.env.kindOf n=some .local)
  (h:∀s',Inv X Dz (σ.set i none) H s'->Q () s'):wpAny M A (do bindName X.env n .none;unbindBehindTheSuite X.env n pos) Q E s:=by
 obtain⟨m,hn,hl⟩:=id I.loc;have hcls:(X.env.scope.kind == .class||(X.env.scope.kind == .module&&X.env.locals != X.env.globals))=false:=by rw[I.ok.kind];rfl
 have cne:=I.cne;refine vn hk hn hcls fun h' m' hn' hy hs=>?_;have low:∀b o,X.s₀.heap.get? b=some o->b≠X.env.locals:=fun b o e=>VC (Vr (Vl e) I.ok.above);refine h _ ⟨I.ok,I.os,I.bare,⟨fun b o e n hb hx=>?_,fun b o e n hb hx=>?_,I.base.free,fun b o e hx=>?_,I.base.tups,I.base.vc,I.base.wI⟩,⟨m',hn',fun j y v' e1 e2 e3=>?_⟩,fun y c e=>?_,I.free,I.iY,fun p hp=>?_,fun b u e=>?_,by simpa using I.len⟩
 ·exact(hs.2 b (low b o e)).trans (I.base.keep b o e n hb hx)
 ·obtain⟨sl,e1⟩:=I.base.slot b o e n hb hx;exact⟨sl,(hs.2 b (low b o e)).trans e1⟩
 ·obtain⟨o',e1⟩:=I.base.there b o e hx;exact⟨o',(hs.2 b (low b o e)).trans e1⟩
 ·have hj:j≠i:=fun z=>by
   subst z;by_cases Qc:j<σ.length
   ·rw[Vz Qc]at e2;cases e2
   ·rw[VJ (by simpa using Qc)]at e2;cases e2
  rw[gc (VS hj)]at e2;obtain⟨u',r',q⟩:=hl j y v' e1 e2 e3;refine⟨u',r',?_⟩;rcases q with⟨k,e⟩ | ⟨k,c,e,z⟩
  ·exact .inl ⟨k,by rw[hy y fun e=>hj (wK hN e1 (e▸hi))];exact e⟩
  ·obtain⟨o,ho,hd⟩:=z;exact .inr ⟨k,c,e,o,(hs.2 c (cne y c e)).trans ho,hd⟩
 ·obtain⟨v,o,ho,hd⟩:=I.cell y c e;exact⟨v,o,(hs.2 c (cne y c e)).trans ho,hd⟩
 ·obtain⟨e,q,a,b,d⟩:=I.pin p hp;exact⟨(hs.2 _ a).trans e,q,a,b,d⟩
 ·refine(I.hok b u e).stay (fun c v hc q=>(hs.2 c ?_).trans q) (fun _ q=>q) (fun _ _ _ q=>q) fun _ _ q=>q;rintro rfl;rcases hc with rfl | hc
  ·rw[I.free]at e;cases e
  ·rw[I.free]at hc;cases hc
end
end L2
namespace Br
open PySem PySem.Spec PyProof.Rows L2
section
variable{ρ:Dm.Env}{σ:L2.St}{H0 H:Hp}
theorem aM.drop(st:aM H0 H σ ρ)(i:Nat):aM H0 H (σ.set i none) (ρ.set i .un):=by
 have m:=st.mask i;have ne:∀{j:Nat} {c:Dm.Cell},(ρ.set i .un)[j]?=some c->c≠.un->j≠i:=fun {j c} e hc z=>by
  subst z;by_cases Qc:j<ρ.length
  ·rw[Vz Qc]at e;cases e;exact hc rfl
  ·rw[VJ (by simpa using Qc)]at e;cases e
 have gs:∀{j:Nat},j≠i->(σ.set i none)[j]?=σ[j]?:=fun {j} h=>gc (VS h);refine⟨m.same,by rw[VT];exact m.len,fun j d e=>?_,fun j d e=>?_,fun j k d e a h1 h2 h3 h4=>?_⟩
 ·rw[gs (ne e (by simp))];exact m.sh j d e
 ·rw[gs (ne e (by simp))];exact m.ow j d e
 ·rw[gs (ne h1 (by simp))]at h3;rw[gs (ne h2 (by simp))]at h4;exact m.dis j k d e a h1 h2 h3 h4
theorem SSt.drop(st:aM H0 H σ ρ){i:Nat}(h0:i≠0):SSt σ ρ H0 H (σ.set i none) (ρ.set i .un) H0 H:=by
 refine⟨aM.drop st i,Stp.refl _ _ _,fun a ⟨j,d,h1,h2⟩=>.inl ?_,gc h0⟩;by_cases hj:i=j
 ·subst hj;by_cases Qc:i<ρ.length
  ·rw[Vz Qc]at h1;cases h1
  ·rw[VJ (by simpa using Qc)]at h1;cases h1
 ·rw[gc hj]at h1 h2;exact⟨j,d,h1,h2⟩
noncomputable def φX(ea C:Addr):HO:=.ext fun h=>∃o,h.get? ea=some o/\o.cls=.ref C
theorem φX_ok{P:Program}{w:World}{H:Hp}{h:Heap}{ea C:Addr}{o:Obj}(e:h.get? ea=some o)(c:o.cls=.ref C):bC P w H h ea (φX ea C):=
 ⟨⟨o,e,c⟩,⟨o,e⟩,fun _ _ ⟨o,e,c⟩ k=>⟨o,k o e,c⟩⟩
noncomputable def Cx.in'(X:Cx)(pn:List (Addr×Obj))(xe:Value->Shared->Prop):Cx:={ X with pn:=X.pn++pn,xe:=xe }
noncomputable def Cx.sub'(X:Cx)(A:Around)(xe:Value->Shared->Prop):Cx:={ X with A:=A,calm:=false,xe:=xe }
end
section
variable{X:Cx}{Dz pn:List (Addr×Obj)}{σ:L2.St}{H:Hp}{s:Shared}{xe:Value->Shared->Prop}
theorem Ir(I:Inv X pn σ H s):Inv (Cx.in' X pn xe) [] σ H s:=
 ⟨⟨I.ok.1,I.ok.2,I.ok.3,I.ok.4,I.ok.5,I.ok.6,I.ok.7,I.ok.8,I.ok.9,I.ok.10,I.ok.11,I.ok.12,I.ok.13,I.ok.14,I.ok.15,I.ok.16,I.ok.17,I.ok.18⟩,I.os,I.bare,I.base,I.loc,I.cell,I.free,I.iY,fun p hp=>I.pin p (by rw[VQ]at hp;exact hp),I.hok,I.len⟩
theorem oz(I:Inv (Cx.in' X pn xe) Dz σ H s):Inv X pn σ H s:=
 ⟨⟨I.ok.1,I.ok.2,I.ok.3,I.ok.4,I.ok.5,I.ok.6,I.ok.7,I.ok.8,I.ok.9,I.ok.10,I.ok.11,I.ok.12,I.ok.13,I.ok.14,I.ok.15,I.ok.16,I.ok.17,I.ok.18⟩,I.os,I.bare,I.base,I.loc,I.cell,I.free,I.iY,fun p hp=>I.pin p (VA _ hp),I.hok,I.len⟩
theorem EO{A:Around}(hA:A.frames=X.A.frames)(I:Inv X Dz σ H s):Inv (Cx.sub' X A xe) Dz σ H s:=
 ⟨⟨I.ok.1,I.ok.2,I.ok.3,I.ok.4,I.ok.5,I.ok.6,I.ok.7,I.ok.8,(fun h=>nomatch h),hA.trans I.ok.10,I.ok.11,I.ok.12,I.ok.13,I.ok.14,I.ok.15,I.ok.16,I.ok.17,I.ok.18⟩,I.os,I.bare,I.base,I.loc,I.cell,I.free,I.iY,I.pin,I.hok,I.len⟩
theorem zu{A:Around}(ok:X.Ok)(I:Inv (Cx.sub' X A xe) Dz σ H s):Inv X Dz σ H s:=
 ⟨ok,I.os,I.bare,I.base,I.loc,I.cell,I.free,I.iY,I.pin,I.hok,I.len⟩
end
structure jC(K:Dk)(C:Addr):Prop where
 get:PySem.W.pF K C
 cls:(Wm K C).isSome=true
noncomputable def φXF(ea C d:Addr):HO:=.ext fun h=>∃o,h.get? ea=some o/\o.cls=.ref C/\o.dict=some d/\∀c,o.data≠.cls c
def ExK(H:Hp)(a C:Addr):Prop:=H a=some (φX a C)\/∃d,H a=some (φXF a C d)
def Sn(K:Dk)(C:Addr)(c:V)(b:Bool):List V->Hp->VK->Prop:=fun xs H Q=>∃a,xs=[.ref a,c]/\ExK H a C/\Q (.bl b) H
section
variable{X:Cx}{C:Addr}{e:Expr}{f:FE}{p p2 pos:Pos}{b:Bool}
section
variable{σ:L2.St}{tn:Str}{H:Hp}{c:V}
theorem So{Dz:List (Addr×Obj)}{s:Shared}{a:Addr}(I:Inv X Dz σ H s)(h:ExK H a C):PySem.W.yM a C s.heap:=by
 rcases h with h | ⟨d,h⟩
 ·exact(I.hok a _ h).1
 ·obtain⟨o,e,c,_⟩:=(I.hok a _ h).1;exact⟨o,e,c⟩
theorem BG{u2:Value}(hc:RelV c u2)(hu:∀u,RelV c u->u=u2)(Z:jC X.K C)(k:eg X.K (.ref C) u2=some b):fy X (.builtin "isinstance") (Sn X.K C c b):=by intro Dz s σ H xs us Q I r h;obtain⟨a,rfl,ha,q⟩:=h;obtain⟨u,u3,rfl,rx,ry⟩:=vals2 r;cases rx;obtain rfl:=hu u3 ry;exact Wf (PySem.W.Iq Z.get Z.cls) I.kIn (So I ha) k (by intro q;cases q) fun tk=>⟨.bl b,H,I.tok tk,rfl,q⟩
theorem Ni{Q:VK}(h:tD (Dm.e1 (Dm.BC C b) f) σ H Q):tCB (Sn X.K C c b) (yX (tD f) (yX (tC c) CQ)) σ H Q:=by
 obtain⟨H0,ρ,x,ρ',st,e,k⟩:=h;unfold Dm.e1 at e;split at e
 ·cases e
 rename_i x1 ρ1 e1;split at e
 ·cases e
 rename_i dx p1;cases dx with
 |exc C'=>
  unfold Dm.BC at e;dsimp only at e;by_cases hC:C'=C
  ·subst hC;rw[if_pos rfl]at e;cases e;refine⟨H0,ρ,x1,_,st,e1,fun v H1 Hb t1 r1=>?_⟩;have rv:Rep Hb v (.exc C'):=(r1.look t1.st p1).full t1.st.same;cases rv with
   |exc q=>exact⟨_,rfl,.inl q,k _ H1 Hb t1 (Rep.bl _)⟩
  ·rw[if_neg hC]at e;cases e
 |cY C' mv=>
  unfold Dm.BC at e;dsimp only at e;by_cases hC:C'=C
  ·subst hC;rw[if_pos rfl]at e;cases e;refine⟨H0,ρ,x1,_,st,e1,fun v H1 Hb t1 r1=>?_⟩;have rv:Rep Hb v (.cY C' mv):=(r1.look t1.st p1).full t1.st.same;cases rv with
   |cY q _=>exact⟨_,rfl,.inr ⟨_,q⟩,k _ H1 Hb t1 (Rep.bl _)⟩
  ·rw[if_neg hC]at e;cases e
 |_=>cases e
theorem aA{D:Addr}(Z:jC X.K C)(k:eg X.K (.ref C) (.ref D)=some b)(hgT:Gl X tn)(hmT:X.mg tn=some (.ref D))(hg:Gl X "isinstance")(hm:X.mg "isinstance" = none)(h:DE X e f)(SS:(tn == ("__debug__" : Str))=false:=by decide)
  (he:starEach [e,.Name tn p2] X.env=(false,eval e X.env)::starEach [.Name tn p2] X.env:=by rfl) (Nm:(backTo pos (starEach [.Name tn p2] X.env)).any (·.1)=false:=by rfl) (he2:starEach [.Name tn p2] X.env=(false,eval (.Name tn p2) X.env)::starEach [] X.env:=by rfl) :
  DE X (.Call (.Name "isinstance" p) [e,.Name tn p2] [] pos) (Dm.e1 (Dm.BC C b) f):=
 PE.weak (qZ (BG (c:=.ref D) rfl (fun u q=>q) Z k) hg hm Xp (kI h (kI (Kd (v:=.ref D) hgT hmT rfl SS) sW he2) he) (he:=he) (Nm:=Nm)) fun _ _ _=>Ni
theorem jo{T:String}(Z:jC X.K C)(k:eg X.K (.ref C) (.type T)=some b)(hvT:bootBuiltins tn=some (.type T))(hgT:Gl X tn)(hmT:X.mg tn=none)(hg:Gl X "isinstance")(hm:X.mg "isinstance" = none)(h:DE X e f)(hn:tn ≠ "__name__" := by decide)(SS:(tn == ("__debug__" : Str))=false:=by decide)
  (he:starEach [e,.Name tn p2] X.env=(false,eval e X.env)::starEach [.Name tn p2] X.env:=by rfl) (Nm:(backTo pos (starEach [.Name tn p2] X.env)).any (·.1)=false:=by rfl) (he2:starEach [.Name tn p2] X.env=(false,eval (.Name tn p2) X.env)::starEach [] X.env:=by rfl) :
  DE X (.Call (.Name "isinstance" p) [e,.Name tn p2] [] pos) (Dm.e1 (Dm.BC C b) f):=
 PE.weak (qZ (BG (c:=.ty T) rfl (fun u q=>by cases q;rfl) Z k) hg hm Xp (kI h (kI (Ec (v:=.ty T) hgT hmT hvT rfl hn SS) sW he2) he) (he:=he) (Nm:=Nm)) fun _ _ _=>Ni
end
end
theorem fD{K:Dk}{h₀:Heap}{mg:Str->Option Value}{x:Str}{C:Addr}{bmB:List Value}{newId:String}(X:K.In h₀)(G:mg x=some (.ref C))(q:Ww K C bmB newId=true):OwnCls x C bmB newId mg h₀:=by
 refine⟨G,?_⟩;unfold Ww at q;split at q
 ·rename_i dd cd sl ho;split at q
  ·rename_i C' bm k0 k1 k2 k3 n k5 hm hs;simp only[Vv,beq_iff_eq,Yt]at q;obtain⟨⟨⟨⟨⟨rfl,rfl⟩,Sq⟩,ht⟩,hok⟩,hni⟩:=q;obtain⟨nm,bs,mro,ns,qn,hd,sn,sub,ab,col,del⟩:=cd;dsimp only at hm Sq hok hni;subst hm Sq;have hsl:sl=#[k0,k1,k2,k3,some (.builtin n),k5]:=by
    obtain⟨l⟩:=sl;simp only at hs;rw[hs]
   subst hsl;exact⟨bm,ns,nm,qn,bs,hd,sn,sub,ab,col,dd,k0,k1,k2,k3,k5,_,X _ _ ho,.of_isNs (PySem.W.isNs_of_in X hok),PySem.W.nsMap_none_of_in X hok hni,PySem.W.tail_of_in X ht⟩
  ·cases q
 ·cases q
noncomputable abbrev bmV:List Value:=[.type "ValueError",.type "Exception",.type "BaseException",.type "object"]
section
variable{X:Cx}{a b c e:Expr}{f fa fb fc:FE}{p p2 pos:Pos}{es:List Expr}{fs:List FE}
theorem Ls:OpR X (compareOp .IsNot) (Se true):=by intro Dz s σ H x y v u Q I rx ry h;obtain⟨rfl,q⟩:=h;cases ry;refine isnot_none_gen ?_;rw[Li rx];exact⟨.bl _,H,I,rfl,q⟩
theorem Lu:OpD (Se true) Dm.BB:=by
 intro H0 H x y dx dy z Q s rx ry e k;unfold Dm.BB at e;split at e
 ·cases e;have hy:=EL ry;have:y=V.non:=of_decide_eq_true (hy.trans rfl);refine⟨this,?_⟩;rw[if_pos rfl,EL rx];exact k _ H0 H (aW.refl s) (.bl _)
 ·cases e
theorem Py(ha:DE X a fa)(hb:DE X b fb):DT X (.Compare a [.IsNot] [b] pos) (Dm.tV (Dm.e2 Dm.BB fa fb)):=uR Ls Lu ha hb (lW _)
end
end Br
namespace Dm
noncomputable abbrev FN:=Env->List (List Dat)->Option (Env×List (List Dat))
noncomputable def BH(s u:FN):FN:=fun ρ r=>match s ρ r with
 |none=>none
 |some (ρ1,r1)=>u ρ1 r1
noncomputable def nIf(t:FT)(a b:FN):FN:=fun ρ r=>match t ρ with
 |none=>none
 |some (true,ρ1)=>a ρ1 r
 |some (false,ρ1)=>b ρ1 r
noncomputable def An(i e:FE):FN:=fun ρ r=>match i ρ with
 | some (.val (.int k),ρ1)=>(match ixN r.length k with
  |none=>none
  |some m=>match r[m]? with
   |none=>none
   |some row=>match e ρ1 with
    |none=>none
    |some (x,ρ2)=>match tk ρ2 x with
     |none=>none
     |some (d,ρ3)=>if row.length<SZ then some (ρ3,r.set m (row++[d])) else none)
 |_=>none
noncomputable def nA(j i:Nat)(e:FE):FN:=fun ρ r=>if i=j then none else match sA i e ρ with
 |some (.nx ρ1)=>some (ρ1,r)
 |_=>none
noncomputable def jf(bd:FB)(body:FN):List Dat->FN
 |[],ρ,r=>some (ρ,r)
 |d::q,ρ,r=>match bd d ρ with
  |none=>none
  |some ρ1=>match body ρ1 r with
   |none=>none
   |some (ρ2,r2)=>jf bd body q ρ2 r2
noncomputable def rH(it:FI)(bd:FB)(body:FN):FN:=fun ρ r=>match it ρ with
 |none=>none
 |some (ds,ρ1)=>jf bd body ds ρ1 r
noncomputable def nMk(bd:FB):List Dat->Env->Option Env
 |[],ρ=>some ρ
 |d::r,ρ=>match bd d ρ with
  |none=>none
  |some ρ1=>nMk bd r ρ1
noncomputable def lN(j:Nat)(it:FI)(own:Nat)(bd:FB)(SR:FN):FS:=fun ρ=>if j=0 then none else match it ρ with
 |none=>none
 | some (ds,ρ1)=>if ds.length≤SZ then (match nMk bd ds (ρ1++Dp own .un) with
  |none=>none
  |some ρ2=>match SR ((ρ2.take ρ1.length).set j .un) (Dp ds.length []) with
   |none=>none
   |some (ρ3,r)=>some (.nx (ρ3.set j (.ow (.lst (r.map .lst)))))) else none
mutual
noncomputable def bu:Dat->Bool
 |.tup xs=>jM xs
 |.lst xs=>jM xs
 |.dct _ _=>false
 |.dcp _ _=>false
 |.exc _=>false
 |.cY _ _=>false
 |_=>true
noncomputable def jM:List Dat->Bool
 |[]=>true
 |x::r=>bu x&&jM r
end
noncomputable def tkd(ρ:Env):Val->Option (Dat×Env)
 |.val d=>some (d,ρ)
 |.new d=>some (d,ρ)
 |.slot i=>match ρ[i]? with
  |some (.ow (.dct ks vs))=>some (.dct ks vs,ρ)
  |some (.ow d)=>some (d,ρ.set i (.sh d))
  |some (.sh d)=>some (d,ρ)
  |_=>none
noncomputable def Df(ρ:Env):List Val->Option (List Dat×Env)
 |[]=>some ([],ρ)
 |x::r=>match tkd ρ x with
  |none=>none
  |some (d,ρ1)=>match Df ρ1 r with
   |none=>none
   |some (ds,ρ2)=>some (d::ds,ρ2)
noncomputable def eFd(f:List Dat->Option RV)(as:List FE):FE:=fun ρ=>match eAs as ρ with
 |none=>none
 |some (xs,ρ1)=>match Df ρ1 xs with
  |none=>none
  |some (ds,ρ2)=>match f ds with
   |none=>none
   |some v=>if bu v.dat then some (v.cu,ρ2) else none
end Dm
namespace Br
open PySem PySem.Spec PyProof.Rows L2
section
variable{H0 H:Hp}{rows:List (List Dat)}{ps:List Addr}{ρs:Dm.Env}{H0s Hs:Hp}{σs:L2.St}{ρ ρ':Dm.Env}{j:Nat}{σ:L2.St}{b:Addr}
def bG(H0 H:Hp):List Addr->List (List Dat)->Prop
 |[],[]=>True
 |p::ps,r::rs=>(∃xs,H p=some (.lst xs)/\aN H0 xs r)/\bG H0 H ps rs
 |_,_=>False
theorem bG.len:∀{ps:List Addr} {rs:List (List Dat)},bG H0 H ps rs->ps.length=rs.length
 |[],[],_=>rfl
 |_::_,_::_,h=>by simp[bG.len h.2]
theorem bG.get:∀{ps:List Addr} {rs:List (List Dat)} {i:Nat} {r:List Dat},bG H0 H ps rs->rs[i]?=some r->∃p xs,ps[i]?=some p/\H p=some (.lst xs)/\aN H0 xs r
 |[],[],_,_,_,e=>by simp at e
 |p::_,_::_,0,_,h,e=>by simp at e;subst e;obtain⟨xs,h1,h2⟩:=h.1;exact⟨p,xs,rfl,h1,h2⟩
 |_::_,_::_,i+1,_,h,e=>by obtain⟨p,xs,h1,h2⟩:=bG.get (i:=i) h.2 (by simpa using e);exact⟨p,xs,by simpa using h1,h2⟩
theorem bG.mono{H0 H H0' H':Hp}:∀{ps:List Addr} {rs:List (List Dat)},bG H0 H ps rs->aJ H0 H0'->(∀p∈ps,H' p=H p)->bG H0' H' ps rs
 |[],[],_,_,_=>trivial
 |p::ps,r::rs,h,s,k=>by obtain⟨⟨xs,h1,h2⟩,h3⟩:=h;exact⟨⟨xs,by rw[k p PU];exact h1,h2.mono s⟩,bG.mono h3 s fun q hq=>k q (Ds _ hq)⟩
theorem bG.set{p:Addr}{xs:List V}{r:List Dat}(w:aN H0 xs r):∀{ps:List Addr} {rs:List (List Dat)} {i:Nat},bG H0 H ps rs->ps.Nodup->ps[i]?=some p->bG H0 (upd H p (.lst xs)) ps (rs.set i r)
 |[],[],_,_,_,e=>by simp at e
 |q::ps,_::rs,0,h,n,e=>by simp at e;subst e;refine⟨⟨xs,aL,w⟩,h.2.mono (aJ.refl _) fun y hy=>aH fun z=>?_⟩;subst z;exact(VI.mp n).1 hy
 |q::ps,_::rs,i+1,h,n,e=>by
  have e':ps[i]?=some p:=by simpa using e
  obtain⟨⟨ys,h1,h2⟩,h3⟩:=h;obtain⟨n1,n2⟩:=VI.mp n;refine⟨⟨ys,?_,h2⟩,bG.set w h3 n2 e'⟩;rw[aH fun z=>?_]
  ·exact h1
  ·subst z;exact n1 (WG e')
theorem bG.some:∀{ps:List Addr} {rs:List (List Dat)},bG H0 H ps rs->∀p∈ps,∃o,H p=some o
 |[],[],_,_,h=>by cases h
 |q::ps,_::rs,h,p,hp=>by
  rcases Vq.mp hp with rfl | hp
  ·obtain⟨xs,h1,_⟩:=h.1;exact⟨_,h1⟩
  ·exact bG.some h.2 p hp
structure NS(j:Nat)(σs:L2.St)(ρs:Dm.Env)(H0s Hs:Hp)(σ:L2.St)(ρ:Dm.Env)(H0 H:Hp)(rows:List (List Dat)):Prop where
 st:aM H0 H σ ρ
 stp:Stp (aE σs ρs) H0s Hs H0 H
 own:∀a,aE σ ρ a->aE σs ρs a\/Hs a=none
 fx:σ[0]?=σs[0]?
 ex:∃(L:Addr) (ps:List Addr),σ[j]?=some (some (.ref L))/\Hs L=none/\H0 L=none/\¬aE σ ρ L/\H L=some (.lst (ps.map V.ref))/\(L::ps).Nodup/\(∀p∈ps,Hs p=none/\H0 p=none/\¬aE σ ρ p)/\bG H0 H ps rows
theorem NS.est{H0 H H0' H':Hp}(n:NS j σs ρs H0s Hs σ ρ H0 H rows)(t:ESt σ ρ H0 H ρ' H0' H'):NS j σs ρs H0s Hs σ ρ' H0' H' rows:=by
 obtain⟨L,ps,h1,h2,h3,h4,h5,h6,h7,h8⟩:=n.ex;obtain⟨k1,k2,k3⟩:=t.je h5 h3 h4;refine⟨t.st,n.stp.trans t.stp n.own,fun a z=>n.own a (t.own a z),n.fx,L,ps,h1,h2,k2,k3,k1,h6,fun p hp=>?_,h8.mono t.stp.s0 fun p hp=>?_⟩
 ·obtain⟨q1,q2,q3⟩:=h7 p hp;obtain⟨o,q4⟩:=h8.some p hp;obtain⟨z1,z2,z3⟩:=t.je q4 q2 q3;exact⟨q1,z2,z3⟩
 ·obtain⟨q1,q2,q3⟩:=h7 p hp;obtain⟨o,q4⟩:=h8.some p hp;obtain⟨z1,z2,z3⟩:=t.je q4 q2 q3;rw[z1,q4]
theorem NS.bind{σ σ':L2.St}(n:NS j σs ρs H0s Hs σ ρ H0 H rows)(st:aM H0 H σ' ρ')(o:∀a,aE σ' ρ' a->aE σ ρ a)(hj:σ'[j]?=σ[j]?)(h0:σ'[0]?=σ[0]?):NS j σs ρs H0s Hs σ' ρ' H0 H rows:=by obtain⟨L,ps,h1,h2,h3,h4,h5,h6,h7,h8⟩:=n.ex;exact⟨st,n.stp,fun a z=>n.own a (o a z),h0.trans n.fx,L,ps,hj.trans h1,h2,h3,fun z=>h4 (o L z),h5,h6,fun p hp=>⟨(h7 p hp).1,(h7 p hp).2.1,fun z=>(h7 p hp).2.2 (o p z)⟩,h8⟩
noncomputable def BI(H0 H:Hp)(ps:List Addr):Hp:=fun b=>if b∈ps then H b else H0 b
theorem Ao(h:b∈ps):BI H0 H ps b=H b:=by unfold BI;rw[if_pos h]
theorem mq(h:b∉ps):BI H0 H ps b=H0 b:=by unfold BI;rw[if_neg h]
theorem F_(s:aJ H0 H):aJ H0 (BI H0 H ps):=fun b o e=>by
 by_cases q:b∈ps
 ·rw[Ao q];exact s _ _ e
 ·rw[mq q];exact e
theorem Iu(s:aJ H0 H):aJ (BI H0 H ps) H:=fun b o e=>by
 by_cases q:b∈ps
 ·rw[Ao q]at e;exact e
 ·rw[mq q]at e;exact s _ _ e
theorem bG.reps{H0 H H1:Hp}:∀{ps:List Addr} {rs:List (List Dat)},bG H0 H ps rs->aJ H0 H1->(∀p∈ps,H1 p=H p)->aN H1 (ps.map V.ref) (rs.map Dat.lst)
 |[],[],_,_,_=>.nil
 |p::ps,r::rs,h,s,k=>by obtain⟨⟨xs,h1,h2⟩,h3⟩:=h;exact .cons (.lst (.inl ((k p PU).trans h1)) (h2.mono s)) (bG.reps h3 s fun q hq=>k q (Ds _ hq))
theorem NS.done{ρ:Dm.Env}(n:NS j σs ρs H0s Hs σ ρ H0 H rows):∃H0',SSt σs ρs H0s Hs σ (ρ.set j (.ow (.lst (rows.map Dat.lst)))) H0' H:=by
 obtain⟨L,ps,h1,h2,h3,h4,h5,h6,h7,h8⟩:=n.ex;obtain⟨n1,n2⟩:=VI.mp h6;have ss:=F_ (ps:=ps) n.st.same;have st:aM (BI H0 H ps) H σ ρ:={
  same:=Iu n.st.same
  len:=n.st.len
  sh:=fun i d h=>by obtain⟨v,z,r⟩:=n.st.sh i d h;exact⟨v,z,r.mono ss⟩
  ow:=fun i d h=>by obtain⟨b,z,q,w⟩:=n.st.ow i d h;have nb:b∉ps:=fun y=>(h7 b y).2.2 ⟨i,d,h,z⟩;exact⟨b,z,by rw[mq nb];exact q,w.mono ss rfl⟩
  dis:=n.st.dis }
 refine⟨BI H0 H ps,st.tM h1 h4 (by rw[mq n1];exact h3) ⟨_,h5,h8.reps ss fun p hp=>Ao hp⟩,⟨n.stp.s0.trans ss,n.stp.s1,fun a o e=>?_,n.stp.s3⟩,fun a z=>?_,n.fx⟩
 ·by_cases q:a∈ps
  ·exact .inl (h7 a q).1
  ·rw[mq q]at e;exact n.stp.s2 a o e
 ·obtain⟨i,d,z1,z2⟩:=z;by_cases q:j=i
  ·subst q;rw[h1]at z2;cases z2;exact .inr h2
  ·rw[gc q]at z1;exact n.own a ⟨i,d,z1,z2⟩
def tDN(j:Nat)(f:Dm.FN):TS:=fun D σ H=>∃σs ρs H0s Hs H0 ρ rows ρ' rows',NS j σs ρs H0s Hs σ ρ H0 H rows/\f ρ rows=some (ρ',rows')/\∀σ' H0' H',NS j σs ρs H0s Hs σ' ρ' H0' H' rows'->aJ H0 H0'->D.nx σ' H'
end
section
variable{D:Ends}{σ:L2.St}{H:Hp}{j:Nat}
theorem PB{s u:Dm.FN}(h:tDN j (Dm.BH s u) D σ H):CL (tDN j s) (tDN j u) D σ H:=by
 obtain⟨σs,ρs,H0s,Hs,H0,ρ,rows,ρ',rows',n,e,k⟩:=h;unfold Dm.BH at e;split at e
 ·cases e
 rename_i ρ1 r1 e1;exact⟨σs,ρs,H0s,Hs,H0,ρ,rows,ρ1,r1,n,e1,fun σ' H0' H' n' s1=>⟨σs,ρs,H0s,Hs,H0',ρ1,r1,ρ',rows',n',e,fun σ2 H2 Hc n2 s2=>k σ2 H2 Hc n2 (s1.trans s2)⟩⟩
theorem Ss{t:FT}{a b:Dm.FN}(h:tDN j (Dm.nIf t a b) D σ H):N2 (tDT t) (tDN j a) (tDN j b) D σ H:=by
 obtain⟨σs,ρs,H0s,Hs,H0,ρ,rows,ρ',rows',n,e,k⟩:=h;unfold Dm.nIf at e;split at e
 ·cases e
 ·rename_i ρ1 e1;refine⟨H0,ρ,true,ρ1,n.st,e1,fun H1 Hb t1=>?_⟩;dsimp only;rw[if_pos rfl];exact⟨σs,ρs,H0s,Hs,H1,ρ1,rows,ρ',rows',n.est t1,e,fun σ2 H2 Hc n2 s2=>k σ2 H2 Hc n2 (t1.stp.s0.trans s2)⟩
 ·rename_i ρ1 e1;refine⟨H0,ρ,false,ρ1,n.st,e1,fun H1 Hb t1=>?_⟩;dsimp only;rw[if_neg VL];exact⟨σs,ρs,H0s,Hs,H1,ρ1,rows,ρ',rows',n.est t1,e,fun σ2 H2 Hc n2 s2=>k σ2 H2 Hc n2 (t1.stp.s0.trans s2)⟩
theorem PD{fi:Dm.FI}{bd:Dm.FB}{g:TG}{body:Dm.FN}{is:List Nat}(hb:BD is g bd)(hj:j∉is)(h:tDN j (Dm.rH fi bd body) D σ H):N9 (tDI fi) g (tDN j body) D σ H:=by
 obtain⟨σs,ρs,H0s,Hs,H0,ρ,rows,ρ',rows',n,e,k⟩:=h;unfold Dm.rH at e;split at e
 ·cases e
 rename_i ys ρ1 e1;refine⟨H0,ρ,ys,ρ1,n.st,e1,fun J H00 Hb t1 jw=>?_⟩;refine ⟨fun i m σ H=>∃ H0 ρ rows,NS j σs ρs H0s Hs σ ρ H0 H rows∧aJ H00 H0∧m=ys.length-i∧i≤ys.length∧Dm.jf bd body (ys.drop i) ρ rows=some (ρ',rows'),
  ⟨ys.length,H00,ρ1,rows,n.est t1,aJ.refl _,by simp,VN _,by simpa using e⟩,?_⟩
 rintro i m σ H ⟨H0,ρ,rows,n,s00,rfl,hi,e⟩;obtain⟨js,jg⟩:=jw H0 H s00 n.st.same;by_cases Qc:i<ys.length
 ·have hd:ys[i]?=some ys[i]:=by simp[Qc]
  obtain⟨g1,g2⟩:=jg i ys[i] hd;rw[Wh Qc]at e;unfold Dm.jf at e;refine .inr ⟨g1,fun σ' H'=>∃H0 ρ rows,NS j σs ρs H0s Hs σ' ρ H0 H' rows/\aJ H00 H0/\Dm.jf bd body (ys.drop (i+1)) ρ rows=some (ρ',rows'),?_,fun x H' y=>?_⟩
  ·rintro σ' H' ⟨H0',ρ2,r2,h1,h2,h3⟩;exact⟨ys.length-(i+1),by lia,H0',ρ2,r2,h1,h2,rfl,Qc,h3⟩
  ·obtain⟨H0',gr,rx⟩:=g2 x H' y;split at e
   ·cases e
   ·rename_i ρ2 e2;have t2:=ESt.grow n.st gr;have n2:=n.est t2;refine hb H0' H' σ ρ ρ2 x ys[i] _ t2.st rx e2 fun σ2 st2 o2 k2 _ f2=>?_;have n3:=n2.bind st2 o2 (k2 j hj) f2;have s3:aJ H00 H0':=s00.trans gr.s0;split at e
    ·cases e
    ·rename_i ρ3 r3 e3;refine⟨σs,ρs,H0s,Hs,H0',ρ2,rows,ρ3,r3,n3,e3,fun σ4 H4 Hd n4 s4=>⟨H4,ρ3,r3,n4,s3.trans s4,e⟩⟩
 ·have e':i=ys.length:=by lia
  subst e';rw[XU]at e;cases e;exact .inl ⟨js _ (Nat.le_refl _),k σ H0 H n (t1.stp.s0.trans s00)⟩
theorem PF{K:Dk}{fi f:FE}(h:tDN j (Dm.An fi f) D σ H):AX (tBM K "list" z6 (tOp (Ot K) (yE j) (tD fi)) (tDA [f])) D σ H:=by
 obtain⟨σs,ρs,H0s,Hs,H0,ρ,rows,ρ',rows',n,e,k⟩:=h;unfold Dm.An at e;split at e
 case h_2=>cases e
 rename_i z ρ1 e1;split at e
 ·cases e
 rename_i m em;split at e
 ·cases e
 rename_i row er;split at e
 ·cases e
 rename_i x ρ2 e2;split at e
 ·cases e
 rename_i d ρ3 e3;split at e
 case isFalse=>cases e
 rename_i hz;cases e;obtain⟨L,ps0,h1,_⟩:=n.ex;refine⟨_,h1,H0,ρ,_,ρ1,n.st,e1,fun y H1 Hb t1 r1=>?_⟩;have n1:=n.est t1;obtain⟨L',ps,q1,q2,q3,q4,q5,q6,q7,q8⟩:=n1.ex;rw[h1]at q1;cases q1;obtain⟨q,xs,hq,hqx,hqr⟩:=q8.get er;have hqm:q∈ps:=WG hq;refine⟨L,ps.map V.ref,z,V.ref q,rfl,Rep.isInt r1,.inl (.inl q5),?_,.inl ⟨rfl,xs,.inl (.inl hqx)⟩,?_⟩
 ·show (L2.ixN (ps.map V.ref).length z).bind (fun j=>(ps.map V.ref)[j]?)=_;rw[Pa,q8.len,<- OL,em];show (ps.map V.ref)[m]?=_;rw[VH,hq];rfl
 refine⟨H1,ρ1,[x],ρ2,n1.st,by unfold Dm.eAs;rw[e2];rfl,fun vs H2 Hc t2 r2=>?_⟩;cases r2 with
 |cons r rr=>
  cases rr;obtain⟨H3,t3,b3,r3,_,_⟩:=take1 t2 (aJ.refl _) r e3;have n3:=n1.est t3;obtain⟨L',ps',w1,w2,w3,w4,w5,w6,w7,w8⟩:=n3.ex;rw[h1]at w1;cases w1;obtain⟨k1,_,_⟩:=t3.je q5 q3 q4;rw[k1]at w5;have ep:ps'=ps:=by
   have:ps.map V.ref=ps'.map V.ref:=by injection w5 with z;injection z
   exact((Yd fun a b h=>by injection h).mp this).symm
  subst ep;obtain⟨q',ys,hq',hqy,Su⟩:=w8.get er;rw[hq]at hq';cases hq';have nL:L≠q:=fun z=>(VI.mp w6).1 (z▸hqm);refine⟨q,ys,_,rfl,rfl,hqy,by rw[Su.length];exact Vr hz (by decide),?_⟩;obtain⟨z1,z2,z3⟩:=w7 q hqm;refine k σ H3 _ ⟨n3.st.aside z2 z3,n3.stp.aside z1,n3.own,n3.fx,L,ps',h1,w2,w3,w4,by rw[aH nL];exact k1,w6,w7,bG.set (Su.append (.cons r3 .nil)) w8 (VI.mp w6).2 hq⟩ (t1.stp.s0.trans t3.stp.s0)
theorem UD{i:Nat}{f:FE}(h:tDN j (Dm.nA j i f) D σ H):AY (tD f) (lJ i) D σ H:=by
 obtain⟨σs,ρs,H0s,Hs,H0,ρ,rows,ρ',rows',n,e,k⟩:=h;unfold Dm.nA at e;split at e
 ·cases e
 rename_i hij;split at e
 case h_2=>cases e
 rename_i ρ9 e9;cases e;unfold Dm.sA at e9;split at e9
 ·cases e9
 rename_i hi0;split at e9
 ·cases e9
 ·rename_i d ρ1 e1;cases e9;refine⟨H0,ρ,_,ρ1,n.st,e1,fun v H0' H' t r=>?_⟩;obtain⟨a,e,n1,no,n0,w⟩:=r;subst e;have m:=n.est t;obtain⟨L0,ps0,y1,_,_,_,y5,_,y7,y8⟩:=n.ex;obtain⟨L,ps,h1,h2,h3,h4,h5,h6,h7,h8⟩:=m.ex;rw[y1]at h1;cases h1;obtain⟨k1,_,_⟩:=t.je y5 (by assumption) (by assumption);rw[k1]at h5;have ep:ps=ps0:=by
   have:ps0.map V.ref=ps.map V.ref:=by injection h5 with z;injection z
   exact((Yd fun a b h=>by injection h).mp this).symm
  subst ep;have nL:L0≠a:=fun z=>by rw[z,n1]at y5;cases y5
  have nP:∀p∈ps,p≠a:=fun p hp z=>by obtain⟨o,q⟩:=y8.some p hp;rw[z,n1]at q;cases q
  refine k _ H0' H' ⟨m.st.C2 no n0 w,m.stp,fun b z=>?_,(gc hi0).trans m.fx,L0,ps,(gc hij).trans y1,h2,h3,fun z=>?_,k1,h6,fun p hp=>⟨(h7 p hp).1,(h7 p hp).2.1,fun z=>?_⟩,h8⟩ t.stp.s0
  ·rcases ji z with rfl | z
   ·exact .inr (n.stp.gone n1)
   ·exact m.own b z
  ·rcases ji z with z | z
   ·exact nL z
   ·exact h4 z
  ·rcases ji z with z | z
   ·exact nP p hp z
   ·exact(h7 p hp).2.2 z
 ·rename_i x ρ1 _ e1;split at e9
  ·cases e9
  ·rename_i d ρ2 e2;cases e9;refine⟨H0,ρ,_,ρ1,n.st,e1,fun v H0' H' t r=>?_⟩;obtain⟨H1,t1,b1,r1,_,_⟩:=take1 t (aJ.refl _) r e2;exact k _ H1 H' ((n.est t1).bind (t1.st.w_ r1) (fun b z=>gA z) (gc hij) (gc hi0)) t1.stp.s0
end
section
variable{bd:Dm.FB}{is:List Nat}{SR:Dm.FN}{j own:Nat}{fi:Dm.FI}{ρ:Dm.Env}{σ:L2.St}{g:TG}
theorem BJ{own:Nat}{Q:VK}{H00 Hb:Hp}{ρ1 ρ2:Dm.Env}{ds:List Dat}{J:It}(hb:BD is g bd)(hl:∀i∈is,σ.length<=i)
  (st1:aM H00 Hb σ ρ1) (jw:JW J H00 ds) (hsz:ds.length<=Dm.SZ) (e2:Dm.nMk bd ds (ρ1++Dp own .un)=some ρ2) (D:Addr) (hD:Hb D=none)
  (k:∀ H0' H' (ps:List Addr),aM H0' H' σ (ρ2.take ρ1.length)→Stp (aE σ ρ1) H00 Hb H0' H'→(∀ a,aE σ (ρ2.take ρ1.length) a→aE σ ρ1 a)→H' D=some (.lst (ps.map V.ref))→H0' D=none→(D::ps).Nodup→(∀ p∈ps,Hb p=none∧H0' p=none) →
   bG H0' H' ps (Dp ds.length [])->Q (.ref D) H') :
  ∃W:Nat->Nat->L2.St->Hp->Prop,(∃m,W 0 m (σ++Dp own none) (upd Hb D (.lst [])))/\∀i m σ' H',W i m σ' H' ->
  (J.stop i H'∧Q (.ref D) H')∨(J.go i H'∧∀ x H2,J.yld i H' x H2→g x σ' H2 fun σ2 H3=>Hy σ2 H3 fun b H4=>if b=true
   then GU CQ σ2 H4 fun y H5=>∃Qa,H5 D=some (.lst Qa)/\Qa.length<sizeLine/\∃m',m'<m/\W (i+1) m' σ2 (upd H5 D (.lst (Qa++[y])))
   else ∃m',m'<m/\W (i+1) m' σ2 H4):=by
 have noD:¬aE σ ρ1 D:=st1.cL hD;refine ⟨fun i m σ' H'=>∃ (H0c:Hp) (ρc:Dm.Env) (ps:List Addr),aM H0c H' σ' ρc∧aJ H00 H0c∧m=ds.length-i∧i≤ds.length∧Dm.nMk bd (ds.drop i) ρc=some ρ2 ∧
  H' D=some (.lst (ps.map V.ref))/\ps.length=i/\H0c D=none/\(D::ps).Nodup/\(∀p∈ps,Hb p=none/\H0c p=none)/\bG H0c H' ps (Dp i [])/\Stp (aE σ ρ1) H00 Hb H0c H'/\(∀j,j<σ.length->σ'[j]?=σ[j]?)/\(∀a,aE σ' ρc a->aE σ ρ1 a),
  ⟨ds.length,H00,ρ1++Dp own .un,[],(st1.aside (st1.same.free hD) noD).ext own,aJ.refl _,by simp,VN _,by simpa using e2,aL,rfl,st1.same.free hD,by simp,by simp,trivial,(Stp.refl _ _ _).aside hD,
   fun j hj=>Vi hj,fun a z=>tH st1 z⟩,?_⟩
 rintro i m σ' H' ⟨H0c,ρc,ps,sc,s00,rfl,hi,ec,hDl,Nm,n0,nd,hps,hro,sp,hσ,ho⟩;have nOc:¬aE σ' ρc D:=fun z=>noD (ho D z);have nOp:∀p∈ps,¬aE σ' ρc p:=fun p hp z=>st1.cL (hps p hp).1 (ho p z);obtain⟨js,jg⟩:=jw H0c H' s00 sc.same;by_cases Qc:i<ds.length
 ·have hd:ds[i]?=some ds[i]:=by simp[Qc]
  obtain⟨g1,g2⟩:=jg i ds[i] hd;rw[Wh Qc]at ec;unfold Dm.nMk at ec;refine .inr ⟨g1,fun y H2 yy=>?_⟩;obtain⟨H0',gr,rx⟩:=g2 y H2 yy;split at ec
  ·cases ec
  rename_i ρ3 e3;have t2:=ESt.grow sc gr;obtain⟨hD2,n02,no2⟩:=t2.je hDl n0 nOc;refine hb H0' H2 σ' ρc ρ3 y ds[i] _ t2.st rx e3 fun σ3 st3 o3 k3 d3 _=>?_;unfold Hy;dsimp only;rw[if_pos rfl];refine⟨VN _,fun p hp=>?_⟩;have hpD:p≠D:=fun z=>by rw[z,hD2]at hp;cases hp
  have noP:¬aE σ3 ρ3 p:=st3.cL hp;have Sv:∀q∈ps,q≠p:=fun q hq z=>by obtain⟨o,h1⟩:=hro.some q hq;have:=gr.s1 q o h1;rw[z,hp]at this;cases this
  refine⟨ps.map V.ref,by rw[aH (VS hpD)];exact hD2,?_,ds.length-(i+1),by lia,H0',ρ3,ps++[p],?_,s00.trans gr.s0,rfl,Qc,ec,?_,by simp[Nm],n02,?_,?_,?_,?_,?_,?_⟩
  ·rw[Pa,Nm];unfold Dm.SZ at hsz;exact Vr (Vr Qc hsz) (by decide)
  ·have no3:¬aE σ3 ρ3 D:=fun z=>no2 (o3 D z);exact(st3.aside (st3.same.free hp) noP).aside n02 no3
  ·rw[aL,Vy];rfl
  ·rw[<- Xu];refine WL.mpr ⟨nd,by simp,fun a ha b hb=>?_⟩;rw[Vw.mp hb];rcases Vq.mp ha with rfl | ha
   ·exact VS hpD
   ·exact Sv a ha
  ·intro q hq;rcases Vt.mp hq with hq | hq
   ·refine⟨(hps q hq).1,?_⟩;obtain⟨o,h1⟩:=hro.some q hq;exact(t2.je h1 (hps q hq).2 (nOp q hq)).2.1
   ·rw[Vw.mp hq];exact⟨(sp.trans t2.stp fun a z=>.inl (ho a z)).gone hp,st3.same.free hp⟩
  ·have base:bG H0' (upd (upd H2 p (.lst [])) D (.lst (ps.map V.ref++[V.ref p]))) ps (Dp i []):=hro.mono gr.s0 fun q hq=>by
    have hqD:q≠D:=fun z=>(VI.mp nd).1 (z▸hq);obtain⟨o,h1⟩:=hro.some q hq;rw[aH hqD,aH (Sv q hq),gr.s1 q o h1,h1]
   have app:∀{H0 H:Hp} {ps:List Addr} {rs:List (List Dat)} {p:Addr},bG H0 H ps rs->H p=some (.lst [])->bG H0 H (ps++[p]) (rs++[[]]):=by
    intro H0 H ps rs p h1 h2
    induction ps generalizing rs with
    |nil=>cases rs with
     |nil=>exact⟨⟨[],h2,.nil⟩,trivial⟩
     |cons _ _=>exact h1.elim
    |cons q ps ih=>cases rs with
     |nil=>exact h1.elim
     |cons r rs=>exact⟨h1.1,ih h1.2⟩
   have:=app base (p:=p) (by rw[aH hpD,aL]);rw[List.replicate_succ'];exact this
  ·exact((sp.trans t2.stp fun a z=>.inl (ho a z)).aside ((sp.trans t2.stp fun a z=>.inl (ho a z)).gone hp)).aside hD
  ·exact fun j hj=>(k3 j fun z=>Xs.mpr (hl j z) hj).trans (hσ j hj)
  ·exact fun a z=>ho a (o3 a z)
 ·have e':i=ds.length:=by lia
  subst e';rw[XU]at ec;cases ec;refine .inl ⟨js _ (Nat.le_refl _),k H0c H' ps ?_ sp ?_ hDl n0 nd hps hro⟩
  all_goals
   have IY:σ.length<=ρ2.length:=by rw[<- sc.len];refine Xs.mp fun z=>?_;have q:=hσ σ'.length z;rw[VJ (Nat.le_refl _),V2 z]at q;cases q
   have tk:∀{j:Nat} {c:Dm.Cell},(ρ2.take ρ1.length)[j]?=some c->j<σ.length/\ρ2[j]?=some c:=fun {j c} h=>by
    have hj:j<ρ1.length:=by
     have:=(Vm.mp h).1;rw[V8]at this
     lia
    rw[WV hj]at h;exact⟨by rw[st1.len];exact hj,h⟩
  ·refine⟨sc.same,?_,fun j d h=>?_,fun j d h=>?_,fun j j' d d' a h1 h2 h3 h4=>?_⟩
   ·rw[V8,<- st1.len];lia
   ·obtain⟨hj,h⟩:=tk h;obtain⟨v,q,r⟩:=sc.sh j d h;exact⟨v,(hσ j hj).symm.trans q,r⟩
   ·obtain⟨hj,h⟩:=tk h;obtain⟨v,q,r⟩:=sc.ow j d h;exact⟨v,(hσ j hj).symm.trans q,r⟩
   ·obtain⟨hj,h1⟩:=tk h1;obtain⟨hj',h2⟩:=tk h2;exact sc.dis j j' d d' a h1 h2 ((hσ j hj).trans h3) ((hσ j' hj').trans h4)
  ·intro a ⟨j,d,h1,h2⟩;obtain⟨hj,h1⟩:=tk h1;exact ho a ⟨j,d,h1,(hσ j hj).trans h2⟩
theorem oE{z:Dm.Out}(q:Dm.lN j fi own bd SR ρ=some z):∃ds ρ1 ρ2 ρ3 r3,j≠0/\fi ρ=some (ds,ρ1)/\ds.length<=Dm.SZ/\Dm.nMk bd ds (ρ1++Dp own .un)=some ρ2 /\
  SR ((ρ2.take ρ1.length).set j .un) (Dp ds.length [])=some (ρ3,r3)/\z=.nx (ρ3.set j (.ow (.lst (r3.map .lst)))):=by
 unfold Dm.lN at q;split at q
 ·cases q
 rename_i hj0;split at q
 ·cases q
 rename_i ds ρ1 e1;split at q
 case isFalse=>cases q
 rename_i hsz;split at q
 ·cases q
 rename_i ρ2 e2;split at q
 ·cases q
 rename_i ρ3 r3 e3;cases q;exact⟨ds,ρ1,ρ2,ρ3,r3,hj0,e1,hsz,e2,e3,rfl⟩
theorem ER{s u:FS}{o:Dm.Out}(hs:∀z,s ρ=some z->∃ρ',z=.nx ρ')(e:Dm.aR s u ρ=some o):∃ρ1,s ρ=some (.nx ρ1)/\u ρ1=some o:=by
 cases q:s ρ with
 |none=>unfold Dm.aR at e;rw[q]at e;cases e
 |some z=>obtain⟨ρ1,rfl⟩:=hs z q;unfold Dm.aR at e;rw[q]at e;exact⟨ρ1,rfl,e⟩
theorem PJ{H:Hp}{D:Ends}{gs:FS}(hb:BD is g bd)(hl:∀i∈is,σ.length<=i)(hj:j<σ.length)(h:tDS (Dm.aR (Dm.lN j fi own bd SR) gs) D σ H) :
  CL (AY (tLC (tDI fi) own g Hy (GU CQ)) (lJ j)) (CL (tDN j SR) (tDS gs)) D σ H:=by
 obtain⟨H0,ρ,o,st,e,k⟩:=h;obtain⟨ρ9,e9,e⟩:=ER (fun z q=>by obtain⟨_,_,_,_,_,_,_,_,_,_,z⟩:=oE q;exact⟨_,z⟩) e;obtain⟨ds,ρ1,ρ2,ρ3,r3,hj0,e1,hsz,e2,e3,z9⟩:=oE e9;cases z9;refine⟨H0,ρ,ds,ρ1,st,e1,fun J H00 Hb t1 jw L hL=>BJ (Q:=fun x H1=>lJ j x σ H1 (CL (tDN j SR) (tDS gs) D)) hb hl t1.st jw hsz e2 L hL fun H0' H' ps st' sp' ho' hDl n0 nd hps hro=>?_⟩;have nL:¬aE σ ρ1 L:=t1.st.cL hL;have om:∀a,aE (σ.set j (some (.ref L))) ((ρ2.take ρ1.length).set j .un) a->aE σ (ρ2.take ρ1.length) a:=fun a ⟨i,d,h1,h2⟩=>by
  rcases bf h1 with⟨_,z⟩ | ⟨hij,h1⟩
  ·cases z
  ·rw[gc (VS hij)]at h2;exact⟨i,d,h1,h2⟩
 have st2:aM H0' H' (σ.set j (some (.ref L))) ((ρ2.take ρ1.length).set j .un):={
  same:=st'.same
  len:=by rw[VT,VT];exact st'.len
  sh:=fun i d h=>by
   rcases bf h with⟨_,z⟩ | ⟨hij,h⟩
   ·cases z
   ·obtain⟨v,q,r⟩:=st'.sh i d h;exact⟨v,by rw[gc (VS hij)];exact q,r⟩
  ow:=fun i d h=>by
   rcases bf h with⟨_,z⟩ | ⟨hij,h⟩
   ·cases z
   ·obtain⟨v,q,r⟩:=st'.ow i d h;exact⟨v,by rw[gc (VS hij)];exact q,r⟩
  dis:=fun i i' d d' a h1 h2 h3 h4=>by
   rcases bf h1 with⟨_,z⟩ | ⟨q1,h1⟩
   ·cases z
   rcases bf h2 with⟨_,z⟩ | ⟨q2,h2⟩
   ·cases z
   rw[gc (VS q1)]at h3;rw[gc (VS q2)]at h4;exact st'.dis i i' d d' a h1 h2 h3 h4 }
 have sp:Stp (aE σ ρ) H0 H H0' H':=t1.stp.trans sp' fun a z=>.inl (t1.own a z);have n:NS j σ ρ H0 H (σ.set j (some (.ref L))) ((ρ2.take ρ1.length).set j .un) H0' H' (Dp ds.length []):=
  ⟨st2,sp,fun a z=>.inl (t1.own a (ho' a (om a z))),gc hj0,L,ps,Vz hj,t1.stp.gone hL,n0,fun z=>nL (ho' L (om L z)),hDl,nd,fun p hp=>⟨t1.stp.gone (hps p hp).1,(hps p hp).2,fun z=>t1.st.cL (hps p hp).1 (ho' p (om p z))⟩,hro⟩
 refine⟨σ,ρ,H0,H,H0',_,_,ρ3,r3,n,e3,fun σ4 H4 Hd n4 _=>?_⟩;obtain⟨H5,t5⟩:=n4.done;exact⟨H5,_,o,t5.st,e,k.pre t5⟩
noncomputable abbrev DN(X:Cx)(j:Nat)(st:Stmt)(f:Dm.FN):Prop:=PS X st (tDN j f)
noncomputable abbrev DNs(X:Cx)(j:Nat)(st:List Stmt)(f:Dm.FN):Prop:=PSs X st (tDN j f)
end
section
variable{X:Cx}{st:Stmt}{Nl:List Stmt}{fs gs:Dm.FN}{e c:Expr}{f:FE}{pos:Pos}{j:Nat}
section
variable{is:List Nat}{fi:Dm.FI}{bd:Dm.FB}
theorem BK(h1:DN X j st fs):DNs X j [st] fs:=Ed h1
theorem UE{t:FT}{x y:List Stmt}(ht:DT X c t)(ha:DNs X j x fs)(hb:DNs X j y gs):DN X j (.If c x y pos) (Dm.nIf t fs gs):=PS.weak (GF ht ha hb) fun _ _ _=>Ss
theorem Iv{tg it:Expr}{body:List Stmt}(hp:PassesOwn (model X.prog X.w) X.A X.env X.xe)(hc:X.calm=true)(hi:DI X tg it fi)(hg:TG' X tg is bd)(hb:DNs X j body fs)(hj:decide (j∈is)=false:=by rfl)
  (hs:∀x,foldedSetIterable it X.env x=pure x:=by intro _;rfl):DN X j (.For tg it body [] pos) (Dm.rH fi bd fs):=by
 obtain⟨g,h1,h2⟩:=hg.ex;exact PS.weak (GO hp hc hi h1 hb hs) fun _ _ _=>PD h2 (of_decide_eq_false hj)
theorem Iw{x:Str}{i:Expr}{fi:FE}{px sp ap cp:Pos}(hi':DE X i fi)(he:DE X e f)(hi:X.N[j]?=some x:=by rfl)(hv:Vis X.env.scope x:=by trivial)(hd:(x == ("__debug__" : Str))=false:=by decide)
  (SK:(x == ("__classdict__" : Str))=false:=by decide) (Nm:zZ i:=by intro _ _;rfl) (Tr:attributeBase (.Subscript (.Name x px) i sp) "append" X.env (eval (.Subscript (.Name x px) i sp) X.env)=eval (.Subscript (.Name x px) i sp) X.env:=by rfl)
  (hfew:((backTo cp (starEach [e] X.env)).all (fun x=>!x.1)&&(backToKw cp (keywordEach [] X.env)).all (fun x=>x.1.isSome)
   && decide ([e].length+([]:List Keyword).length+(if ([]:List Keyword).isEmpty then 0 else 1)<30))=true:=by rfl)
  (SV:(ap.endLine == cp.line)=true:=by rfl) (hs:starEach [e] X.env=(false,eval e X.env)::starEach [] X.env:=by rfl) (R1:(backTo cp (starEach [] X.env)).any (·.1)=false:=by rfl)
  (hsw:swapsWith (.Call (.Attribute (.Subscript (.Name x px) i sp) "append" ap) [e] [] cp) none pos.line X.env=pure false:=by rfl) :
  DN X j (.Expr (.Call (.Attribute (.Subscript (.Name x px) i sp) "append" ap) [e] [] cp) pos) (Dm.An fi f):=
 PS.weak (qW (El Xk PySem.F.slot_list_append PySem.F.type_list_append sY (MS Ek (kG hi hv hd SK) hi' Nm) (af he aG hs) Tr hfew SV hs R1) hsw) fun _ _ _=>PF
theorem PK(j:Nat)(nm own:List Str){y:Str}{py Qm Dg:Pos}{tg iter:Expr}{scope:Scope}{SR:Dm.FN}{gs:FS}{lst:Stmt}(hN:X.N.Nodup)(hg:TGc X nm scope own tg is bd)(hi:DI X tg iter fi)(hlp:DN X j lst SR)(hre:DSs X Nl gs)
  (hc:X.calm=true:=by rfl) (hk:scope.kind=.function:=by rfl) (hS:rA X.env.scope X.N nm scope=true:=by rfl) (hl:(is.all fun i=>decide (X.N.length<=i))=true:=by rfl) (hj:X.N[j]?=some y:=by rfl) (hy:Loc X.env.scope y:=by trivial)
  (hsw:swapsWith (.ListComp (.List [] Dg) [⟨tg,iter,[],0⟩] scope pos) (some (.Name y py)) Qm.line X.env=pure true:=by rfl) (hs:∀y,foldedSetIterable iter X.env y=pure y:=by intro _;rfl)
  (hf:X.fn y=true\/X.env.scope.names.lookup y=some .local:=by trivial) :
  DSs X (.Assign [.Name y py] (.ListComp (.List [] Dg) [⟨tg,iter,[],0⟩] scope pos) Qm::lst::Nl) (Dm.aR (Dm.lN j fi own.length bd SR) gs):=by
 obtain⟨g,h1,h2⟩:=hg.ex;have h:=kc (i6 hN hj hy hc (gB.of hS hk) hi h1 (fun cl C s H fp=>Ab) (fun cl C s H fp=>CS (pos:=Dg) sW) hsw hs hf) (kc hlp hre);intro Dz s σ H D I q;exact h Dz s σ H D I (PJ h2 (fun i hi=>by rw[I.len];exact xo hl i hi) (by rw[I.len];exact(Vm.mp hj).1) q)
end
end
section
variable{vs:List Dat}{ρ ρ':Dm.Env}{ks:List Int}{x:Dm.Val}{d:Dat}{H H':Hp}{i:Nat}
theorem PL(e:Dm.tkd ρ x=some (d,ρ')):Dm.tk ρ x=some (d,ρ')\/∃i ks vs,x=.slot i/\ρ[i]?=some (.ow (.dct ks vs))/\d=.dct ks vs/\ρ'=ρ:=by
 cases x with
 |val d'=>exact .inl e
 |new d'=>exact .inl e
 |slot i=>
  unfold Dm.tkd at e;dsimp only at e;split at e
  ·rename_i ks vs h;cases e;exact .inr ⟨i,ks,vs,rfl,h,rfl,rfl⟩
  ·rename_i d' _ h;left;unfold Dm.tk;dsimp only;rw[h];exact e
  ·rename_i d' h;left;unfold Dm.tk;dsimp only;rw[h];exact e
  ·cases e
theorem Iz(e:Dm.tkd ρ x=some (d,ρ'))(h:ρ[i]?=some (.ow (.dct ks vs))):ρ'[i]?=some (.ow (.dct ks vs)):=by
 cases x with
 |val d'=>cases e;exact h
 |new d'=>cases e;exact h
 |slot j=>
  unfold Dm.tkd at e;dsimp only at e;split at e
  ·cases e;exact h
  ·rename_i d' hn hj;cases e;by_cases q:j=i
   ·subst q;rw[h]at hj;cases hj;exact absurd rfl (hn ks vs)
   ·rw[gc q];exact h
  ·cases e;exact h
  ·cases e
theorem zv:∀{xs:List Dm.Val} {ρ ρ':Dm.Env} {ds:List Dat},Dm.Df ρ xs=some (ds,ρ')->ρ[i]?=some (.ow (.dct ks vs))->ρ'[i]?=some (.ow (.dct ks vs))
 |[],_,_,_,e,h=>by cases e;exact h
 |x::xs,ρ,ρ',ds,e,h=>by
  unfold Dm.Df at e;split at e
  ·cases e
  rename_i d ρ1 e1;split at e
  ·cases e
  rename_i ds' ρ2 e2;cases e;exact zv e2 (Iz e1 h)
def UG(H0:Hp)(σ:L2.St)(ρ:Dm.Env)(v:V)(d:Dat):Prop:=Rep H0 v d\/∃(i:Nat) (b:Addr) (ks:List Int) (vs:List Dat),d=.dct ks vs/\v=.ref b/\ρ[i]?=some (.ow (.dct ks vs))/\σ[i]?=some (some (.ref b))
inductive BL(H0:Hp)(σ:L2.St)(ρ:Dm.Env):List V->List Dat->Prop
 |nil:BL H0 σ ρ [] []
 |cons {v:V} {d:Dat} {vs:List V} {ds:List Dat}:UG H0 σ ρ v d->BL H0 σ ρ vs ds->BL H0 σ ρ (v::vs) (d::ds)
theorem Dh{Hs H0s H0 H:Hp}{σ:L2.St}{ρs:Dm.Env}:∀{xs:List Dm.Val} {vs:List V} {ρ ρ':Dm.Env} {ds:List Dat} {H0c:Hp},ESt σ ρs H0s Hs ρ H0c H->aJ H0 H0c->jd Hs H0 H σ ρ vs xs->Dm.Df ρ xs=some (ds,ρ') ->
  ∃pq,ESt σ ρs H0s Hs ρ' pq H/\aJ H0c pq/\BL pq σ ρ' vs ds
 |[],_,ρ,ρ',ds,H0c,t,b,r,e=>by cases r;cases e;exact⟨H0c,t,aJ.refl _,.nil⟩
 |x::xs,_,ρ,ρ',ds,H0c,t,b,r,e=>by
  cases r with
  |cons h r=>
   unfold Dm.Df at e;split at e
   ·cases e
   ·rename_i d ρ1 e1;split at e
    ·cases e
    ·rename_i ds' ρ2 e2;cases e;rcases PL e1 with e1' | ⟨i,ks,vs,rfl,hi,rfl,rfl⟩
     ·obtain⟨H1,t1,b1,r1,o1,d1⟩:=take1 t b h e1';obtain⟨H2,t2,b2,r2⟩:=Dh t1 (b.trans b1) (r.rho o1 d1) e2;exact⟨H2,t2,b1.trans b2,.cons (.inl (r1.mono b2)) r2⟩
     ·obtain⟨H2,t2,b2,r2⟩:=Dh t b r e2;obtain⟨q,_⟩:=h;obtain⟨a,z,_⟩:=t.st.ow i _ hi;rw[q]at z;cases z;exact⟨H2,t2,b2,.cons (.inr ⟨i,a,ks,vs,rfl,rfl,zv e2 hi,q⟩) r2⟩
mutual
theorem Rep.noD(hk:∀a o,H a=some o->H' a=some o\/∃kvs,o=.dK kvs):∀{v:V} {d:Dat},Rep H v d->Dm.bu d=true->Rep H' v d
 |_,_,.non,_=>.non
 |_,_,.bl b,_=>.bl b
 |_,_,.int i,_=>.int i
 |_,_,.str x,_=>.str x
 | _,_,.tup h r,n=>.tup (by
   rcases hk _ _ h with z | ⟨_,z⟩
   ·exact z
   ·cases z) (aN.noD hk r (by unfold Dm.bu at n;exact n))
 | _,_,.lst h r,n=>.lst (by
   rcases h with h | ⟨o,h⟩
   ·rcases hk _ _ h with z | ⟨_,z⟩
    ·exact .inl z
    ·cases z
   ·rcases hk _ _ h with z | ⟨_,z⟩
    ·exact .inr ⟨o,z⟩
    ·cases z) (aN.noD hk r (by unfold Dm.bu at n;exact n))
 |_,_,.dct _ _ _,n=>by unfold Dm.bu at n;cases n
 |_,_,.dcp _ _ _,n=>by unfold Dm.bu at n;cases n
 |_,_,.exc _,n=>by unfold Dm.bu at n;cases n
 |_,_,.cY _ _,n=>by unfold Dm.bu at n;cases n
 |_,_,.fn a,_=>.fn a
theorem aN.noD(hk:∀a o,H a=some o->H' a=some o\/∃kvs,o=.dK kvs):∀{vs:List V} {ds:List Dat},aN H vs ds->Dm.jM ds=true->aN H' vs ds
 |_,_,.nil,_=>.nil
 |_,_,.cons h r,n=>by unfold Dm.jM at n;rw[Vv]at n;exact .cons (Rep.noD hk h n.1) (aN.noD hk r n.2)
end
end
open Classical in
theorem IA{σ:L2.St}{H:Hp}{Q:VK}{f:List Dat->Option RV}{fs:List FE}{E:XK}(h:tD (Dm.eFd f fs) σ H Q):A3 (spD f) [] E (tDA fs) σ H Q:=by
 obtain⟨H0,ρ,x,ρ',st,e,k⟩:=h;unfold Dm.eFd at e;split at e
 ·cases e
 rename_i xs ρ1 e1;split at e
 ·cases e
 rename_i ds ρ2 e2;split at e
 ·cases e
 rename_i z fz;split at e
 case isFalse=>cases e
 rename_i hno;injection e with e
 injection e with ea eb
 subst ea;subst eb;refine⟨H0,ρ,xs,ρ1,st,e1,fun vs H1 Hb t1 r1=>?_⟩;dsimp only;rw[VQ];obtain⟨H2,t2,b2,r2⟩:=Dh t1 (aJ.refl _) r1 e2
 let B:Addr->Prop:=fun b=>∃(i:Nat) (ks:List Int) (vs:List Dat),ρ2[i]?=some (.ow (.dct ks vs))/\σ[i]?=some (some (.ref b))
 have hB:∀b,B b->H2 b=none/\∃kvs,Hb b=some (.dK kvs):=fun b ⟨i,ks,vs,h1,h2⟩=>by obtain⟨a,q,n,kvs,w,_⟩:=t2.st.ow i _ h1;rw[h2]at q;cases q;exact⟨n,kvs,w⟩
 let H2':Hp:=fun b=>if B b then Hb b else H2 b
 have in':∀b,B b->H2' b=Hb b:=fun b h=>if_pos h;have out':∀b,¬B b->H2' b=H2 b:=fun b h=>if_neg h;have s2:aJ H2 H2':=fun b o e=>by
  by_cases q:B b
  ·rw[(hB b q).1]at e;cases e
  ·rw[out' b q];exact e
 have s2b:aJ H2' Hb:=fun b o e=>by
  by_cases q:B b
  ·rw[in' b q]at e;exact e
  ·rw[out' b q]at e;exact t2.st.same _ _ e
 have rr:∀{vs:List V} {ds:List Dat},BL H2 σ ρ2 vs ds->aN H2' vs ds:=fun {vs ds} r=>by
  induction r with
  |nil=>exact .nil
  |cons h _ ih=>
   refine .cons ?_ ih;rcases h with h | ⟨i,b,ks,vs',rfl,rfl,h1,h2⟩
   ·exact h.mono s2
   ·obtain⟨a,q,n,kvs,w,ek,rs⟩:=t2.st.ow i _ h1;rw[h2]at q;cases q;exact .dct (by rw[in' _ ⟨i,ks,vs',h1,h2⟩];exact w) ek (rs.mono s2)
 refine⟨H2',ds,z,s2b,rr r2,fz,fun w H3 Hd g3 r3=>?_⟩
 let H3':Hp:=fun b=>if B b then none else H3 b
 have in3:∀b,B b->H3' b=none:=fun b h=>if_pos h;have xB:∀b,¬B b->H3' b=H3 b:=fun b h=>if_neg h;have gr:aW H2 Hb H3' Hd:=⟨fun b o e=>by
   by_cases q:B b
   ·rw[(hB b q).1]at e;cases e
   ·rw[xB b q];exact g3.s0 _ _ (s2 _ _ e),g3.s1,fun b o e=>by
   by_cases q:B b
   ·rw[in3 b q]at e;cases e
   ·rw[xB b q]at e;rcases g3.s2 b o e with y | y
    ·exact .inl y
    ·rw[out' b q]at y;exact .inr y,fun b o e=>by
   by_cases q:B b
   ·rw[in3 b q]at e;cases e
   ·rw[xB b q]at e;exact g3.s3 _ _ e⟩
 have hk:∀a o,H3 a=some o->H3' a=some o\/∃kvs,o=.dK kvs:=fun a o e=>by
  by_cases q:B a
  ·obtain⟨_,kvs,y⟩:=hB a q;have:=g3.s0 a _ ((in' a q).trans y);rw[e]at this;exact .inr ⟨kvs,Option.some.inj this⟩
  ·exact .inl (by rw[xB a q];exact e)
 have r3':z7 Hb H3' Hd w z:=by
  cases z with
  |val d=>exact Rep.noD hk r3 hno
  |new d=>
   obtain⟨a,ea,n,n0,w'⟩:=r3;refine⟨a,ea,n,?_,?_⟩
   ·by_cases q:B a
    ·exact in3 a q
    ·rw[xB a q];exact n0
   ·cases d with
    |lst ds'=>obtain⟨ys,y1,y2⟩:=w';exact⟨ys,y1,aN.noD hk y2 (by have:Dm.bu (.lst ds')=true:=hno;unfold Dm.bu at this;exact this)⟩
    |dct ks ds'=>have:Dm.bu (.dct ks ds')=true:=hno;unfold Dm.bu at this;cases this
    |dcp ks ds'=>have:Dm.bu (.dcp ks ds')=true:=hno;unfold Dm.bu at this;cases this
    |_=>exact w'.elim
 exact k w H3' Hd (t2.trans (.grow t2.st gr)) ((r3'.toV t2.st).early fun a n=>t2.stp.gone n)
section
variable{X:Cx}{e b:Expr}{es:List Expr}{fs:List FE}{fb:FE}{p pos:Pos}
theorem IB{k:Nat}{F:Addr}{fd:FuncData}{ps:List Str}{g:List Dat->Option RV}{x:Str}(G:ck X.prog X.w X.K X.mg X.base CX0 k F fd ps (spD g))(hr:bP k X.A)(hg:Gl X x)(hm:X.mg x=some (.ref F))(hk:Wc X.K (.ref F)=true)(hb:Binds X.K fd ps [])
  (ha:DA X (e::es) fs) (SS:(x == ("__debug__" : Str))=false:=by decide) (he:starEach (e::es) X.env=(false,eval e X.env)::starEach es X.env:=by rfl) (Nm:(backTo pos (starEach es X.env)).any (·.1)=false:=by rfl) :
  DE X (.Call (.Name x p) (e::es) [] pos) (Dm.eFd g fs):=PE.weak (v8 G hr hg hm hk hb .nil (En (X:=X)) ha SS he Nm) fun _ _ _=>IA
end
open PySem
variable{C:List Value->Prop}{us:List Value}
theorem len0(h:us.length=0)(c:C []):C us:=by rw[List.eq_nil_of_length_eq_zero h];exact c
theorem IC{n:Nat}{C:List Value->Prop}{us:List Value}(h:us.length=n+1)(c:∀a us,us.length=n->C (a::us)):C us:=by
 cases us with
 |nil=>cases h
 |cons a us=>exact c a us (by simpa using h)
theorem Sw(h:us.length=1)(c:∀a,C [a]):C us:=IC h fun a _ h=>len0 h (C:=fun us=>C (a::us)) (c a)
theorem HU(h:us.length=2)(c:∀a b,C [a,b]):C us:=IC h fun a _ h=>Sw h (C:=fun us=>C (a::us)) (c a)
theorem Sy(h:us.length=3)(c:∀a b d,C [a,b,d]):C us:=IC h fun a _ h=>HU h (C:=fun us=>C (a::us)) (c a)
theorem Sz(h:us.length=4)(c:∀a b d e,C [a,b,d,e]):C us:=IC h fun a _ h=>Sy h (C:=fun us=>C (a::us)) (c a)
theorem UH(h:us.length=5)(c:∀a b d e f,C [a,b,d,e,f]):C us:=IC h fun a _ h=>Sz h (C:=fun us=>C (a::us)) (c a)
end Br
namespace L2
open PySem
variable{K:Dk}{x qual:Str}{st:Stmt}{f:Addr}{fd:FuncData}{ps:List Str}
theorem Fun.PM(F:Fun K x qual st f fd)(hp:ps.length=1)(h:∀(kV doc pm:Value) (an:Option Addr) (cdv ct:Value) (a:Value),bindArgs (VZ x qual (bV st) (bH st) (aF st) .none kV doc pm an cdv ct) ⟨[a],[]⟩=pure (ps.zip [a])):Binds K fd ps []:=
 F.binds fun kV doc pm an cdv ct us hl=>Br.Sw (C:=fun us=>bindArgs (VZ x qual (bV st) (bH st) (aF st) .none kV doc pm an cdv ct) ⟨us,[]⟩=pure (ps.zip us)) (hl.trans hp) (h kV doc pm an cdv ct)
theorem Fun.jq(F:Fun K x qual st f fd)(hp:ps.length=2)(h:∀(kV doc pm:Value) (an:Option Addr) (cdv ct:Value) (a b:Value),bindArgs (VZ x qual (bV st) (bH st) (aF st) .none kV doc pm an cdv ct) ⟨[a,b],[]⟩=pure (ps.zip [a,b])):Binds K fd ps []:=
 F.binds fun kV doc pm an cdv ct us hl=>Br.HU (C:=fun us=>bindArgs (VZ x qual (bV st) (bH st) (aF st) .none kV doc pm an cdv ct) ⟨us,[]⟩=pure (ps.zip us)) (hl.trans hp) (h kV doc pm an cdv ct)
theorem Fun.xC(F:Fun K x qual st f fd)(hp:ps.length=3)(h:∀(kV doc pm:Value) (an:Option Addr) (cdv ct:Value) (a b d:Value),bindArgs (VZ x qual (bV st) (bH st) (aF st) .none kV doc pm an cdv ct) ⟨[a,b,d],[]⟩=pure (ps.zip [a,b,d])):Binds K fd ps []:=
 F.binds fun kV doc pm an cdv ct us hl=>Br.Sy (C:=fun us=>bindArgs (VZ x qual (bV st) (bH st) (aF st) .none kV doc pm an cdv ct) ⟨us,[]⟩=pure (ps.zip us)) (hl.trans hp) (h kV doc pm an cdv ct)
theorem Fun.PN(F:Fun K x qual st f fd)(hp:ps.length=4)(h:∀(kV doc pm:Value) (an:Option Addr) (cdv ct:Value) (a b d e:Value),bindArgs (VZ x qual (bV st) (bH st) (aF st) .none kV doc pm an cdv ct) ⟨[a,b,d,e],[]⟩=pure (ps.zip [a,b,d,e])):Binds K fd ps []:=
 F.binds fun kV doc pm an cdv ct us hl=>Br.Sz (C:=fun us=>bindArgs (VZ x qual (bV st) (bH st) (aF st) .none kV doc pm an cdv ct) ⟨us,[]⟩=pure (ps.zip us)) (hl.trans hp) (h kV doc pm an cdv ct)
theorem Fun.Di(F:Fun K x qual st f fd)(hp:ps.length=5)(h:∀(kV doc pm:Value) (an:Option Addr) (cdv ct:Value) (a b d e g:Value),bindArgs (VZ x qual (bV st) (bH st) (aF st) .none kV doc pm an cdv ct) ⟨[a,b,d,e,g],[]⟩=pure (ps.zip [a,b,d,e,g])):Binds K fd ps []:=
 F.binds fun kV doc pm an cdv ct us hl=>Br.UH (C:=fun us=>bindArgs (VZ x qual (bV st) (bH st) (aF st) .none kV doc pm an cdv ct) ⟨us,[]⟩=pure (ps.zip us)) (hl.trans hp) (h kV doc pm an cdv ct)
end L2
namespace Br
open PySem PySem.Spec PyProof.Rows L2
open PySem L2
structure iK(K:Dk)(x:Str)(st:Stmt)(a:Addr)(fd:FuncData):Prop where
 e:VD K mainGlobals x=some (some (.ref a))
 F:Fun K x x st a fd
variable{K:Dk}{x:Str}{st:Stmt}{a:Addr}{fd:FuncData}{hp:Heap}{mg:Str->Option Value}
theorem bW{oc:Value}{od an:Option Addr}{osl:Array (Option Value)}{kV doc pm cdv ct:Value}(e:VD K mainGlobals x=some (some (.ref a)))
  (l:K.lookup a=some ⟨oc,od,.func (VZ x x (bV st) (bH st) (aF st) .none kV doc pm an cdv ct),osl⟩) (c:XI K cdv x=true) (k:Wc K (.ref a)=true) :
  iK K x st a (VZ x x (bV st) (bH st) (aF st) .none kV doc pm an cdv ct):=⟨e,G0 l c k⟩
theorem mgo{v:Value}(X:K.In hp)(G:hp.Ns mainGlobals mg)(e:VD K mainGlobals x=some (some v)):mg x=some v:=PySem.W.mg_of X G e
theorem mno(X:K.In hp)(G:hp.Ns mainGlobals mg)(e:VD K mainGlobals x=some none):mg x=none:=PySem.W.mg_none_of X G e
theorem iK.m(h:iK K x st a fd)(X:K.In hp)(G:hp.Ns mainGlobals mg):mg x=some (.ref a):=PySem.W.mg_of X G h.e
theorem iK.UI{y:Str}(h:iK K x st a fd)(hb:∀(kV doc pm:Value) (an:Option Addr) (cdv ct v:Value),bindArgs (VZ x x (bV st) (bH st) (aF st) .none kV doc pm an cdv ct) ⟨[v],[]⟩=pure [(y,v)])(s:Shared)(v:Value):BindsTo s fd ⟨[v],[]⟩ [(y,v)]:=by obtain⟨oc,od,kV,doc,pm,an,cdv,ct,osl,rfl,lk,SK⟩:=h.F.ex;exact .of_eq (hb kV doc pm an cdv ct v)
theorem hm{j k:Nat}{A:Around}(r:bP k A)(h:j<=k:=by decide):bP j A:=r.mono h
theorem fsc{N P:List Str}{sc:Scope}(h1:sc.kind=.function:=by rfl)(h2:sc.isCoroutine=false:=by rfl)(h3:sc.isGenerator=false:=by rfl)(h4:N.take P.length=P:=by rfl)(h:N.Nodup/\(∀x∈P,sc.names.lookup x=some .local\/sc.names.lookup x=some .cell)/\∀y∈sc.names,y.2≠.free:=by decide +kernel):bg N P sc:=⟨h1,h2,h3,h.1,h4,h.2.1,h.2.2⟩
end Br
namespace Dm
noncomputable def sUn(f g:FS):FS:=fun ρ=>match f ρ with
 |some x=>some x
 |none=>g ρ
noncomputable def zw(R:Env->Option Env)(C ie:Nat)(h:FS):FS:=fun ρ=>match R ρ with
 |none=>none
 |some ρ1=>if ie=0 then none else match h (ρ1.set ie (.sh (.exc C))) with
  |some (.nx ρ')=>some (.nx (ρ'.set ie .un))
  |some (.ret r ρ')=>some (.ret r (ρ'.set ie .un))
  |_=>none
noncomputable def yO:List Nat->List Bool->Nat->Option Bool
 |C::cs,b::bs,D=>if D=C then some b else yO cs bs D
 |_,_,_=>none
noncomputable def fE(cs:List Nat)(bs:List Bool):Dat->Option RV
 |.exc C=>(yO cs bs C).bind vB
 |.cY C _=>(yO cs bs C).bind vB
 |_=>none
end Dm
namespace Br
open PySem PySem.Spec PyProof.Rows L2
section
variable{X:Cx}{C:Addr}{E:L2.St->XK}{R S:Dm.Env->Option Dm.Env}{sts Nl:List Stmt}{st:Stmt}
section
variable{σ:L2.St}{t:FT}{H:Hp}
theorem UJ{f g:FS}(h1:DS X st f)(h2:DS X st g):DS X st (Dm.sUn f g):=fun Dz s σ H D I q=>by
 obtain⟨H0,ρ,o,rs,e,k⟩:=q;unfold Dm.sUn at e;split at e
 ·rename_i y hy;exact h1 Dz s σ H D I ⟨H0,ρ,o,rs,hy.trans e,k⟩
 ·exact h2 Dz s σ H D I ⟨H0,ρ,o,rs,e,k⟩
def tY(C:Addr)(E:L2.St->XK)(R:Dm.Env->Option Dm.Env)(σ:L2.St)(H:Hp):Prop:=∃H0 ρ ρ',aM H0 H σ ρ/\R ρ=some ρ'/\∀σ' a H0' H',SSt σ ρ H0 H σ' ρ' H0' H'->E σ' (.ref C) (some a) H'
noncomputable abbrev YS(X:Cx)(C:Addr)(E:L2.St->XK)(st:Stmt)(R:Dm.Env->Option Dm.Env):Prop:=PS X st (fun _ σ H=>tY C E R σ H)
noncomputable abbrev YB(X:Cx)(C:Addr)(E:L2.St->XK)(sts:List Stmt)(R:Dm.Env->Option Dm.Env):Prop:=PSs X sts (fun _ σ H=>tY C E R σ H)
theorem tY.x(h:tY C E R σ H):tX C E R σ H:=by obtain⟨H0,ρ,ρ',st,e,k⟩:=h;exact⟨H0,ρ,ρ',st,e,fun a H0' H' t=>k σ a H0' H' t.sst⟩
theorem y_x(h:XS X C E st R):YS X C E st R:=PS.weak h fun _ _ _ q=>q.x
theorem ES(h:YS X C E st R):YB X C E (st::Nl) R:=by have:=Ik (Nl:=Nl) h;exact fun Dz s σ H D I q=>this Dz s σ H D I q
theorem SA(h:tY C E (Dm.rIf t R S) σ H):tDT t σ H fun b H1=>if b=true then tY C E R σ H1 else tY C E S σ H1:=by
 obtain⟨H0,ρ,ρ',rs,e,k⟩:=h;unfold Dm.rIf at e;split at e
 ·cases e
 ·rename_i ρ1 ht;exact⟨H0,ρ,true,ρ1,rs,ht,fun H0' H' u=>by show (if true=true then _ else _);rw[if_pos rfl];exact⟨H0',ρ1,ρ',u.st,e,fun σ'' a C4 H'' w=>k σ'' a C4 H'' (u.sst.trans w)⟩⟩
 ·rename_i ρ1 ht;exact⟨H0,ρ,false,ρ1,rs,ht,fun H0' H' u=>by show (if false=true then _ else _);rw[if_neg (by decide)];exact⟨H0',ρ1,ρ',u.st,e,fun σ'' a C4 H'' w=>k σ'' a C4 H'' (u.sst.trans w)⟩⟩
theorem UK{c:Expr}{a b:List Stmt}{pos:Pos}(hc:DT X c t)(ha:YB X C E a R)(hb:YB X C E b S):YS X C E (.If c a b pos) (Dm.rIf t R S):=PS.weak (GF hc ha hb) fun _ _ _ q=>SA q
theorem UL:YB X C E sts Dm.rNo:=fun Dz s σ H D I h=>by obtain⟨_,_,_,_,e,_⟩:=h;cases e
end
end
theorem PR{X:Cx}{body:List Stmt}{h0:ExceptHandler}{hs:List ExceptHandler}{q:FS}{pos:Pos}(hb:∀(pn:List (Addr×Obj)) (xe:Value->Shared->Prop),DSs (Cx.in' X pn xe) body q):DS X (.Try body (h0::hs) [] [] pos) q:=by
 intro Dz s σ H D I hq;refine wpAny_Try_except ?_;refine wpAny_mono (hb Dz _ [] s σ H D (Ir I) hq) (fun f s1 z=>?_) fun _ _ z=>z;cases f with
 |next=>obtain⟨σ',H',J,k⟩:=z;exact wpAny_execs_nil ⟨σ',H',oz J,k⟩
 |ret v=>obtain⟨u,σ',H',J,r,k⟩:=z;exact⟨u,σ',H',oz J,r,k⟩
 |brk=>obtain⟨σ',H',J,k⟩:=z;exact⟨σ',H',oz J,k⟩
 |cont=>obtain⟨σ',H',J,k⟩:=z;exact⟨σ',H',oz J,k⟩
section
variable{X:Cx}{Dz pn:List (Addr×Obj)}{σ:L2.St}{H:Hp}{s:Shared}{xe:Value->Shared->Prop}
theorem PV{x n:Str}{np hpos pos:Pos}{body suite:List Stmt}{b₀:Stmt}{R:Dm.Env->Option Dm.Env}{h:FS}{C CP:Addr}{ie:Nat}
  (hst:X.stack=X.env::X.outer) (hfr:X.env.frame=some X.env.locals) (hex:X.ex=[]) (hN:X.N.Nodup) (hi:X.N[ie]?=some n) (hk:X.env.kindOf n=some .local) (hg:Gl X x) (hm:X.mg x=some (.ref CP)) (Z:PySem.W.Am X.K C CP)
  (hb:∀(pn:List (Addr×Obj)) (xe:Value->Shared->Prop) (E:L2.St->XK),EM C (Cx.in' X pn xe) E->YB (Cx.in' X pn xe) C E body R)
  (hh:∀(A':Around) (xe:Value->Shared->Prop),DSs (Cx.sub' X A' xe) (b₀::suite) h) (SS:(x == ("__debug__" : Str))=false:=by decide) :
  DS X (.Try body [.ExceptHandler (some (.Name x np)) (some n) (b₀::suite) hpos] [] [] pos) (Dm.zw R C ie h):=by
 intro Dz s σ H D I hq;obtain⟨H0,ρ,o,st,e,ok⟩:=hq;unfold Dm.zw at e;split at e
 ·cases e
 rename_i ρ1 hR;split at e
 ·cases e
 rename_i h0;refine wpAny_Try_except ?_;refine wpAny_mono (hb Dz (fun e s₁=>wpAny (model X.prog X.w) X.A (noteFrame e X.env) (fun _ s₂=>wpAny (model X.prog X.w) X.A (setFlight e none) (fun _ s₃=>wpAny (model X.prog X.w) X.A (handleBy e X.env [.ExceptHandler (some (.Name x np)) (some n) (b₀::suite) hpos]) (SP X Dz D) X.xe s₃) X.xe s₂) X.xe s₁)
  (fun σ' _ _ H'=>∃H0',SSt σ ρ H0 H σ' ρ1 H0' H') ?pass [] s σ H DF (Ir I) ⟨H0,ρ,ρ1,st,hR,fun σ' a H0' H' t=>⟨H0',t⟩⟩) ?q fun _ _ z=>z
 case q=>
  intro f s1 z;cases f with
  |next=>obtain⟨_,_,_,q⟩:=z;exact Vx q
  |ret v=>obtain⟨_,_,_,_,_,q⟩:=z;exact Vx q
  |brk=>obtain⟨_,_,_,q⟩:=z;exact Vx q
  |cont=>obtain⟨_,_,_,q⟩:=z;exact Vx q
 case pass=>
  intro U5 σ1 H1 s1 e s' I1 hq;obtain⟨ea,a0,B,H',rfl,os,bare,un,hok,fl,hB,H0',t1⟩:=hq;obtain⟨hh',g,d,t,os'⟩:=s';obtain rfl:os'=s1.os:=os;have J:Inv X Dz σ1 H' ⟨hh',g,d,t,s1.os⟩:=oz (I1.call (h':=hh') (g':=g) (d':=d) (t':=t) (ch:=[]) un hok bare (fun b z=>absurd z (by simp)));have J1:Inv X Dz σ1 H1 s1:=oz I1;have PX:∀b o,X.s₀.heap.get? b=some o->∃o1,s1.heap.get? b=some o1:=fun b o e=>J1.base.there b o e (by rw[hex];exact fun z=>nomatch z);have hB':∀b o,hh'.get? b=some o->b∉frs X.stack->((X.s₀.heap.get? b).isSome=true\/(H' b).isSome=true\/∃p∈X.pn++Dz,p.1=b)->B.get? b=some o:=fun b o e nb hc=>by
   refine hB b o e ?_ nb;rcases hc with hc | hc | ⟨p,hp,rfl⟩
   ·obtain⟨o0,e0⟩:=VP.mp hc;obtain⟨o1,e1⟩:=PX b o0 e0;exact .inl (by rw[e1];rfl)
   ·exact .inr hc
   ·exact .inl (by rw[(J1.pin p hp).1];rfl)
  have hfs:X.A.frames=some (X.env::X.outer):=by rw[J.ok.frames,hst]
  have fl':Heap.FlyingW B (X.env::X.outer) ea (.ref C) a0 hh':=by rw[<- hst];exact fl
  show wpAny (model X.prog X.w) X.A (noteFrame (.ref ea) X.env) _ _ _;refine wpAny_looks_onW (base:=B) (L:=X.env.locals) hfs hfr fl' fun h4 held sl4=>?_;refine wpAny_landsW held fun h5 fl5 sl5=>?_;have J5:Inv X Dz σ1 H' ⟨h5,g,d,t,s1.os⟩:=J.fly (t':=t) hex hB' fl5.1 (sl4.trans sl5);obtain⟨oe,vs,he,hc,hd,_⟩:=fl'.first
  have neF:ea∉frs X.stack:=fun z=>by rw[hst]at z;obtain⟨_,o',ho',hd'⟩:=fl'.2.2.1.mem z;rw[he]at ho';cases ho';exact hd' vs hd
  have noB:B.get? ea=none:=fl'.2.1;have nH:H' ea=none:=by
   cases q:H' ea with
   |none=>rfl
   |some u=>have:=hB' ea oe he neF (.inr (.inl (by rw[q];rfl)));rw[noB]at this;cases this
  have n0:X.s₀.heap.get? ea=none:=by
   cases q:X.s₀.heap.get? ea with
   |none=>rfl
   |some u=>have:=hB' ea oe he neF (.inl (by rw[q];rfl));rw[noB]at this;cases this
  have nl:ea≠X.env.locals:=fun z=>by obtain⟨m,⟨o,es,ep,ho,hd',_⟩,_⟩:=J.loc;rw[<- z,he]at ho;cases ho;rw[hd]at hd';cases hd'
  have nc:∀y c,X.env.cells.lookup y=some c->c≠ea:=fun y c e z=>by obtain⟨v,o,ho,hd'⟩:=J.cell y c e;rw[z,he]at ho;cases ho;rw[hd]at hd';cases hd'
  have np:∀p∈X.pn++Dz,p.1≠ea:=fun p hp z=>by have:=hB' ea oe he neF (.inr (.inr ⟨p,hp,z⟩));rw[noB]at this;cases this
  have hB5:∀b o,h5.get? b=some o->b∉frs X.stack->((X.s₀.heap.get? b).isSome=true\/(H' b).isSome=true\/∃p∈X.pn++Dz,p.1=b)->B.get? b=some o:=fun b o e nb SK=>by
   have:∃o',hh'.get? b=some o':=by
    rcases SK with hc | hc | ⟨p,hp,rfl⟩
    ·obtain⟨o0,e0⟩:=VP.mp hc;exact J.base.there b o0 e0 (by rw[hex];exact fun z=>nomatch z)
    ·obtain⟨u,e0⟩:=VP.mp hc;exact(J.hok b u e0).there
    ·exact⟨_,(J.pin p hp).1⟩
   obtain⟨o',e'⟩:=this;have q:=hB' b o' e' nb SK;have q2:=fl5.1 b o' q;rw[e]at q2;cases q2;exact q
  obtain⟨oe5,he5,hc5⟩:=fl5.there;refine wpAny_handleBy_cons (codeAny_handlers_test ?_) (by intro q;cases q);refine qV (X:=Cx.sub' X (X.A.mark (some (.ref ea))) X.xe) (EO rfl J5) hg hm ?_ SS;refine PySem.W.BF Z J5.kIn ⟨oe5,he5,hc5⟩ ?_;refine codeAny_handlers_suite_as ?_;refine lands_againW fl5 fun h6 fl6 sl6=>?_;have J6:Inv X Dz σ1 H' ⟨h6,g,d,t,s1.os⟩:=J5.fly (t':=t) hex hB5 fl6.1 sl6;obtain⟨oe6,he6,hc6⟩:=fl6.there;have J7:=J6.Sm (o:=φX ea C) nH (φX_ok he6 hc6) n0 nl nc np;refine sS J7 hN hi (.inl hk) (v:=.ref ea) rfl (fun s8 J8 _=>?_) (.inr hk);have t12:SSt σ ρ H0 H σ1 ρ1 (upd H0' ea (φX ea C)) (upd H' ea (φX ea C)):=t1.trans (ESt.grow t1.st (aW.Hr t1.st.same nH)).sst;have rep:Rep (upd H0' ea (φX ea C)) (V.ref ea) (.exc C):=.exc aL;have Lv:SSt σ1 ρ1 (upd H0' ea (φX ea C)) (upd H' ea (φX ea C)) (σ1.set ie (some (.ref ea))) (ρ1.set ie (.sh (.exc C))) (upd H0' ea (φX ea C)) (upd H' ea (φX ea C)):=
   ⟨t12.st.w_ rep,Stp.refl _ _ _,fun a z=>.inl (gA z),gc h0⟩
  have Qi:∀(oh:Dm.Out),h (ρ1.set ie (.sh (.exc C)))=some oh->(∀(D':Ends),(∀σ' H3,(∃ρ' H03,oh=.nx ρ'/\SSt (σ1.set ie (some (.ref ea))) (ρ1.set ie (.sh (.exc C))) (upd H0' ea (φX ea C)) (upd H' ea (φX ea C)) σ' ρ' H03 H3)->D'.nx σ' H3)->(∀v H3,(∃z ρ' σ' H03,oh=.ret z ρ'/\SSt (σ1.set ie (some (.ref ea))) (ρ1.set ie (.sh (.exc C))) (upd H0' ea (φX ea C)) (upd H' ea (φX ea C)) σ' ρ' H03 H3/\Hu (σ1.set ie (some (.ref ea))) (ρ1.set ie (.sh (.exc C))) (upd H' ea (φX ea C)) H03 H3 v z/\∀d a,z=.new d->v=.ref a->¬aE σ' ρ' a)->D'.rt v H3)->(∀ρ',oh≠.bk ρ')->(∀ρ',oh≠.ct ρ')->wZ D' (σ1.set ie (some (.ref ea))) (ρ1.set ie (.sh (.exc C))) (upd H0' ea (φX ea C)) (upd H' ea (φX ea C)) oh):=fun oh _ D' hn hr hb hc=>by
   cases oh with
   |nx ρ'=>exact fun σ' H03 H3 tt=>hn σ' H3 ⟨ρ',H03,rfl,tt⟩
   |bk ρ'=>exact absurd rfl (hb ρ')
   |ct ρ'=>exact absurd rfl (hc ρ')
   |ret z ρ'=>exact fun σ' v H03 H3 tt rr no=>hr v H3 ⟨z,ρ',σ',H03,rfl,tt,rr,no⟩
  cases hoh:h (ρ1.set ie (.sh (.exc C))) with
  |none=>rw[hoh]at e;cases e
  |some oh=>
  rw[hoh]at e;have nb:∀ρ',oh≠.bk ρ':=fun ρ' z=>by rw[z]at e;cases e
  have nc':∀ρ',oh≠.ct ρ':=fun ρ' z=>by rw[z]at e;cases e
  refine wpAny_mono (hh (X.A.mark (some (.ref ea))) _ Dz s8 _ _ { nx:=fun σ' H3=>∃ ρ' H03,oh=.nx ρ'∧SSt (σ1.set ie (some (.ref ea))) (ρ1.set ie (.sh (.exc C))) (upd H0' ea (φX ea C)) (upd H' ea (φX ea C)) σ' ρ' H03 H3,rt:=fun v H3=>∃ z ρ' σ' H03,oh=.ret z ρ'∧SSt (σ1.set ie (some (.ref ea))) (ρ1.set ie (.sh (.exc C))) (upd H0' ea (φX ea C)) (upd H' ea (φX ea C)) σ' ρ' H03 H3∧Hu (σ1.set ie (some (.ref ea))) (ρ1.set ie (.sh (.exc C))) (upd H' ea (φX ea C)) H03 H3 v z∧∀ d a,z=.new d→v=.ref a→¬ aE σ' ρ' a,bk:=fun _ _=>False,ct:=fun _ _=>False } (EO rfl J8)
   ⟨_,_,_,Lv.st,hoh,Qi oh hoh _ (fun _ _ z=>z) (fun _ _ z=>z) nb nc'⟩) (fun f s4 z=>?_) fun _ _ z=>z
  cases f with
  |next=>obtain⟨σ',H3,I4,ρ',H03,rfl,tt⟩:=z;cases e;refine name_goes (zu J.ok I4) hN hi hk fun s9 J9=>?_;exact⟨σ'.set ie none,H3,J9,ok _ _ _ (t12.trans (Lv.trans (tt.trans (SSt.drop tt.st h0))))⟩
  |ret v=>
   obtain⟨u,σ0,H3,I4,rl,z,ρ',σ',H03,rfl,tt,rr,no⟩:=z;cases e;refine name_goes (zu J.ok I4) hN hi hk fun s9 J9=>?_;refine⟨u,σ0.set ie none,H3,J9,rl,ok _ _ _ _ (t12.trans (Lv.trans (tt.trans (SSt.drop tt.st h0)))) ?_ ?_⟩
   ·cases z with
    |val d=>exact rr
    |new d=>
     obtain⟨a,ea',n,n0',w⟩:=rr;refine⟨a,ea',?_,n0',w⟩;have tp:=t12.trans Lv;rcases n with n | n
     ·exact .inl (tp.stp.gone n)
     ·exact(tp.own a n).symm
   ·intro d a hz hv ho;obtain⟨j,d',h1,h2⟩:=ho;refine no d a hz hv ?_;by_cases hj:ie=j
    ·subst hj;rw[W8]at h1;simp only[if_true]at h1;split at h1<;>cases h1
    ·rw[gc hj]at h1 h2;exact⟨j,d',h1,h2⟩
  |brk=>obtain⟨_,_,_,q⟩:=z;exact Vx q
  |cont=>obtain⟨_,_,_,q⟩:=z;exact Vx q
end
theorem SD{C:Addr}{N:List Str}{n m:Nat}{R:Dm.Env->Option Dm.Env}{vs:List V}{H:Hp}{Q:VK}{E:XK}(hm:N.length=n+m)(h:spX C (Dm.fnX n m R) vs H Q E):tY C (fun _=>E) R (start N vs) H:=by have hvn:=EN h;obtain⟨H0,ds,s,rs,e,k⟩:=h;unfold Dm.fnX at e;rw[Vv]at e;obtain⟨st,no⟩:=Im hm hvn s rs;obtain⟨ρ',hR⟩:=VP.mp e.2;exact⟨H0,_,ρ',st,hR,fun σ' a H0' H' t=>k a H0' H' ⟨t.stp.s0,fun a o e=>t.stp.s1 a o e (no a),fun a o e=>(t.stp.s2 a o e).imp id fun q=>q.elim id fun z=>absurd z (no a),t.st.same⟩⟩
theorem okY{P:Program}{w:World}{K:Dk}{mg:Str->Option Value}{base:Heap}{x qual:Str}{st:Stmt}{f C:Addr}{fd:FuncData}{N ps:List Str}{k n m:Nat}{R:Dm.Env->Option Dm.Env}(F:Fun K x qual st f fd)(S:bg N ps (aF st))(hn:ps.length=n)(hm:N.length=n+m)
  (hbody:∀(cdv:Value) (A:Around) (outer:List Env) (s:Shared) (H:Hp) (E:XK),bP k (A.deeper (envOfC qual (aF st) s.heap.objs.size f cdv))->YB (lQ (CXE P w C) P w K mg base N qual (aF st) f cdv A outer s H E) C (fun _=>E) (bH st) R) :
  ck P w K mg base (CXE P w C) (k+1) f fd ps (spX C (Dm.fnX n m R)):=by
 obtain⟨oc,od,kV,doc,pm,an,cdv,ct,osl,rfl,lk,SK⟩:=F.ex;refine MR lk SK S (fun vs H Q E h=>(EN h).trans hn.symm) fun A outer s H vs Q E hr hsp=>?_;exact⟨_,hbody cdv A outer s H E hr,SD hm hsp⟩
section
variable{X:Cx}{C:Nat}{b:Bool}{cs:List Nat}{bs:List Bool}{e:Expr}{f:FE}
theorem ao(h1:DE X e (Dm.e1 (Dm.BC C b) f))(h2:DE X e (Dm.e1 (Dm.fE cs bs) f)):DE X e (Dm.e1 (Dm.fE (C::cs) (b::bs)) f):=fun Dz s σ H Q I q=>by
 obtain⟨H0,ρ,x,ρ',st,e0,k⟩:=q;have e:=e0;unfold Dm.e1 at e;split at e
 ·cases e
 rename_i x1 ρ1 e1;split at e
 ·cases e
 rename_i dx p1;cases dx with
 |exc D=>
  by_cases hD:D=C
  ·refine h1 Dz s σ H Q I ⟨H0,ρ,x,ρ',st,?_,k⟩;unfold Dm.e1;rw[e1];dsimp only;rw[p1];dsimp only;rw[<- e];unfold Dm.BC Dm.fE Dm.yO;dsimp only;rw[if_pos hD,if_pos hD];rfl
  ·refine h2 Dz s σ H Q I ⟨H0,ρ,x,ρ',st,?_,k⟩;unfold Dm.e1;rw[e1];dsimp only;rw[p1];dsimp only;rw[<- e];unfold Dm.fE;dsimp only;rw[Dm.yO.eq_def (C::cs)];dsimp only;rw[if_neg hD]
 |cY D mv=>
  by_cases hD:D=C
  ·refine h1 Dz s σ H Q I ⟨H0,ρ,x,ρ',st,?_,k⟩;unfold Dm.e1;rw[e1];dsimp only;rw[p1];dsimp only;rw[<- e];unfold Dm.BC Dm.fE Dm.yO;dsimp only;rw[if_pos hD,if_pos hD];rfl
  ·refine h2 Dz s σ H Q I ⟨H0,ρ,x,ρ',st,?_,k⟩;unfold Dm.e1;rw[e1];dsimp only;rw[p1];dsimp only;rw[<- e];unfold Dm.fE;dsimp only;rw[Dm.yO.eq_def (C::cs)];dsimp only;rw[if_neg hD]
 |_=>cases e
theorem lO:DE X e (Dm.e1 (Dm.fE [] []) f):=fun Dz s σ H Q I q=>by
 obtain⟨H0,ρ,x,ρ',st,e,k⟩:=q;unfold Dm.e1 at e;split at e
 ·cases e
 split at e
 ·cases e
 rename_i dx p1;cases dx<;>cases e
end
end Br
namespace Sx
open PySem PySem.SetTable PySem.W PyProof.Rows
open PySem PySem.W
def yP(h:Heap)(d:Addr)(es:Array DictEntry)(ep:Nat):Prop:=∃o,h.get? d=some o/\o.ExactDict/\o.data=.dict es ep
theorem yP.typeIs{s:Shared}{d:Addr}{es ep}(x:yP s.heap d es ep):s.TypeIs (.ref d) "dict" := let ⟨o,ho,he,_⟩:=x;⟨o,ho,he.1⟩
theorem yP.at{h h':Heap}{d:Addr}{es ep}(x:yP h d es ep)(e:∀o,h.get? d=some o->h'.get? d=some o):yP h' d es ep:=let ⟨o,ho,r⟩:=x;⟨o,e _ ho,r⟩
section
variable{prog:Program}{w:World}{A:Around}{E:Value->Shared->Prop}{s:Shared}{d it:Addr}{es:Array DictEntry}{ep i:Nat}
theorem Ga(lo:(d == sysModules)=false)(x:yP s.heap d es ep){Q:Value->Shared->Prop}
  (hQ:Q (.ref s.heap.objs.size) { s with heap:=s.heap.push { cls:=.type "dict_keyiterator",data:=.fields #[.ref d,.int 0 0,.int es.size 0,.int ep 0] } }):wpAny (model prog w) A (pyIter (.ref d)) Q E s:=by
 obtain⟨o,ho,hex,hd⟩:=id x;have hT:=x.typeIs;refine wpAny_pyIter_slot hT YC (wpAny_call_entry YC hT F.entry_dict_iter ?_ (F.args_dict_iter_1 _));unfold Builtin.«dict.__iter__» Builtin.Dict.dictSlotNone;refine wpAny_bind (wpAny_bind (wpAny_notOrdered_dict hT ?_));show wpAny _ _ (pure (VF d)) _ _ s;refine wpAny_pure ?_;show wpAny _ _ (XY d >>= _) _ _ s;unfold XY;rw[lo,if_neg VL];refine wpAny_bind (wpAny_pure (wpAny_bind (wpAny_dictEntries ho hd (wpAny_bind (wpAny_dictEpoch ho hd ?_)))));refine wpAny_bind (wpAny_newObj_type (wpAny_pure ⟨_,rfl,"dict_keyiterator",_,⟨_,VY _ rfl,rfl⟩,WI.lookup,?_⟩))
 simpa [rawInt] using hQ
theorem Lw(SQ:s.heap.IsKeyIter it d i es.size ep)(x:yP s.heap d es ep){v:Value}(hv:(es.map (·.key))[i]?=some v){Q:Option Value->Shared->Prop}
  (hQ:∀h',h'.IsKeyIter it d (i+1) es.size ep->WS it s.heap h'->Q (some v) { s with heap:=h' }):wpAny (model prog w) A (pyNext (.ref it)) Q E s:=by
 obtain⟨o,ho,hc,hd⟩:=id SQ;obtain⟨od,hod,SK,hdd⟩:=id x;have Qc:i<es.size:=by
  have:=(Array.getElem?_eq_some_iff.mp hv).1
  simpa using this
 have hkey:es[i].key=v:=by rw[Array.getElem?_map,Xe Qc]at hv;exact Option.some.inj hv
 unfold pyNext;refine wpAny_bind (wpAny_attempt (wpAny_callSpecial?_slot (name:=Yz "__next__") SQ.typeIs WI (wpAny_call_entry WI SQ.typeIs F.entry_dict_keyiterator_next ?_ (F.args_dict_keyiterator_next_1 _))));refine wpAny_bind (wpAny_pure (wpAny_bind (wpAny_bind ?_)))
 first | refine wpAny_bind (wpAny_typeNameOfWhole_keyiter SQ.typeIs (wpAny_pure ?_)) | refine wpAny_bind (wpAny_typeNameOf_keyiter SQ.typeIs (wpAny_pure ?_))
 refine wpAny_bind (wpAny_fieldsOf ho hd ?_);have hown:Builtin.Dict_items.ownsTuple "dict_keyiterator" = false:=rfl;rw[hown];simp only[V3,if_false];show wpAny _ _ (if (VF d == Value.none)=true then _ else _) _ _ s;rw[if_neg (show ¬((VF d == Value.none)=true) from VL)];refine wpAny_bind (wpAny_pure (wpAny_bind (wpAny_dictEntries hod hdd ?_)));rw[if_neg (by simp)];refine wpAny_bind (wpAny_pure (wpAny_bind (wpAny_dictEpoch hod hdd ?_)));rw[if_neg (by simp)];refine wpAny_pure ?_;have hneg:¬(i:Int)<0:=by lia
 simp only[hneg,if_false,Yu,Xe Qc];refine wpAny_bind ?_
 first | refine wpAny_bind (wpAny_typeNameOfWhole_keyiter SQ.typeIs (wpAny_pure ?_)) | refine wpAny_bind (wpAny_typeNameOf_keyiter SQ.typeIs (wpAny_pure ?_))
 refine wpAny_bind (wpAny_isOneOf_keyiter SQ.typeIs ?_);show wpAny _ _ (setField (.ref it) 1 (rawInt ((i:Int)+1)) >>= _) _ _ s;refine wpAny_bind (wpAny_setField ho hd (by simp) ?_);have Lx:(s.heap.update it (Obj.mapFields (·.setIfInBounds 1 (rawInt ((i:Int)+1))))).IsKeyIter it d (i+1) es.size ep:=
  ⟨_,WQ _ ho (Obj.isFreed_of_fields (Obj.data_mapFields hd _)),(Obj.cls_mapFields ..).trans hc,by rw[Obj.data_mapFields hd];simp[rawInt]⟩
 refine wpAny_bind (wpAny_holding (wpAny_bind (wpAny_isOneOf_keyiter (s:={ s with heap:=s.heap.update it (Obj.mapFields (·.setIfInBounds 1 (rawInt ((i:Int)+1)))) }) Lx.typeIs ?_)));show wpAny _ _ (pure es[i].key) _ _ _;rw[hkey];exact wpAny_pure (wpAny_pure ⟨_,rfl,wpAny_pure (hQ _ Lx (WN ..))⟩)
theorem PY(hh:A.handled=none)(SQ:s.heap.IsKeyIter it d es.size es.size ep)(x:yP s.heap d es ep){Q:Option Value->Shared->Prop}
  (hQ:∀h',Heap.ExtBut it s.heap h'->Q none { s with heap:=h' }):wpAny (model prog w) A (pyNext (.ref it)) Q E s:=by
 obtain⟨o,ho,hc,hd⟩:=id SQ;obtain⟨od,hod,SK,hdd⟩:=id x;unfold pyNext;refine wpAny_bind (wpAny_attempt (wpAny_callSpecial?_slot (name:=Yz "__next__") SQ.typeIs WI (wpAny_call_entry WI SQ.typeIs F.entry_dict_keyiterator_next ?_ (F.args_dict_keyiterator_next_1 _))));refine wpAny_bind (wpAny_pure (wpAny_bind (wpAny_bind ?_)))
 first | refine wpAny_bind (wpAny_typeNameOfWhole_keyiter SQ.typeIs (wpAny_pure ?_)) | refine wpAny_bind (wpAny_typeNameOf_keyiter SQ.typeIs (wpAny_pure ?_))
 refine wpAny_bind (wpAny_fieldsOf ho hd ?_);have hown:Builtin.Dict_items.ownsTuple "dict_keyiterator" = false:=rfl;rw[hown];simp only[V3,if_false];show wpAny _ _ (if (VF d == Value.none)=true then _ else _) _ _ s;rw[if_neg (show ¬((VF d == Value.none)=true) from VL)];refine wpAny_bind (wpAny_pure (wpAny_bind (wpAny_dictEntries hod hdd ?_)));rw[if_neg (by simp)];refine wpAny_bind (wpAny_pure (wpAny_bind (wpAny_dictEpoch hod hdd ?_)));rw[if_neg (by simp)];refine wpAny_pure ?_;have hneg:¬(es.size:Int)<0:=by lia
 simp only[hneg,if_false,Yu,Array.getElem?_eq_none (Nat.le_refl es.size)];refine wpAny_bind ?_
 first | refine wpAny_bind (wpAny_typeNameOfWhole_keyiter SQ.typeIs (wpAny_pure ?_)) | refine wpAny_bind (wpAny_typeNameOf_keyiter SQ.typeIs (wpAny_pure ?_))
 show wpAny _ _ (setField (.ref it) 0 .none >>= _) _ _ s;refine wpAny_bind (wpAny_setField ho hd (by simp) (wpAny_bind ?_));unfold newExc newTuple;refine wpAny_bind (wpAny_newObj_type (wpAny_bind (m:=firstArgMember _ _) (wpAny_of_eq (a:=.none) rfl (wpAny_newObj_type ?_ (by size_fits)))) (by size_fits));unfold raiseNew;refine wpAny_bind (wpAny_handled ?_);have hx:A.in1.handled=none:=hh;rw[hx];refine wpAny_bind (wpAny_pure (wpAny_throw (wpAny_bind ?_)));refine wpAny_isInstance (b:=true) (T := "StopIteration") ⟨_,VY _ rfl,rfl⟩ isSubtype_stop (wpAny_pure ?_);exact hQ _ (((WN ..).extBut.push _).push _)
theorem ID(hh:A.handled=none)(I d:Addr)(UN:d≠I) :
  Walks prog w A I [I,d] [I] es.size (fun i v=>(es.map (·.key))[i]?=some v) (fun i h=>h.IsKeyIter I d i es.size ep/\yP h d es ep) where
 sub:=fun b hb=>by simp at hb;simp[hb]
 frame:=fun _ _ _ st hk=>⟨let ⟨o,ho,r⟩:=st.1;⟨o,hk I (by simp) o ho,r⟩,st.2.at fun o e=>hk d (by simp) o e⟩
 item:=fun i s Q E hi st hQ=>by
  obtain⟨v,hv⟩:∃v,(es.map (·.key))[i]?=some v:=⟨_,Xe (by simpa using hi)⟩
  refine Lw st.1 st.2 hv fun h' Lx hs'=>?_;exact hQ v h' s.toks hv ⟨Lx,st.2.at fun o e=>hs'.extBut d o UN e⟩ fun b o hb e=>hs'.extBut b o (fun h=>hb (by simp[h])) e
 done:=fun s Q E st hQ=>PY hh st.1 st.2 fun h' he'=>hQ h' s.toks fun b o hb e=>he' b o (fun h=>hb (by simp[h])) e
 self:=fun _ _ _ _ st hQ=>wpAny_pyIter_keyiter st.1 hQ
theorem PZ(lo:(d == sysModules)=false):KdlSrc prog w "dict" d d es.size (fun i v=>(es.map (·.key))[i]?=some v) (fun h=>yP h d es ep) where
 type:=fun _ x=>x.typeIs
 there:=fun _ x=>let ⟨_,ho,_⟩:=x;⟨Vl ho,Vl ho⟩
 keep:=fun _ _ x hk=>x.at fun o e=>hk d (.inl rfl) o e
 notList:=by decide
 notTuple:=by decide
 hint:=fun _ _ _ _ x hq=>kdl_hint_dict x.typeIs hq
 iter:=fun _ s hh x=>⟨_,_,(fun _ _ hq=>Ga lo x hq),ID hh _ d (let ⟨_,ho,_⟩:=x;VC (Vl ho)),
  ⟨⟨_,VY _ rfl,rfl,by simp⟩,x.at fun o e=>Vp _ e⟩⟩
end
end Sx
namespace Dm
noncomputable def codes(s:String):List Nat:=s.toList.map Char.toNat
noncomputable def shJ:List (List Nat)->List Nat
 |[]=>[]
 |[x]=>x
 |x::y::r=>x++44::32::shJ (y::r)
mutual
noncomputable def shw:Dat->List Nat
 |.non=>codes "None"
 |.bl b=>codes (if b then "True" else "False")
 |.int i=>codes (toString i)
 |.str s=>39::(s++[39])
 |.tup xs=>40::(shJ (oM xs)++(if xs.length == 1 then [44,41] else [41]))
 |.lst xs=>91::(shJ (oM xs)++[93])
 |_=>[]
noncomputable def oM:List Dat->List (List Nat)
 |[]=>[]
 |x::r=>shw x::oM r
end
mutual
noncomputable def BN:Nat->Dat->Bool
 |_,.non=>true
 |_,.bl _=>true
 |_,.int i=>decide (i.natAbs<10 ^ 100)
 |_,.str s=>decide (s=[115,105,110,99,101]\/s=[110,101,118,101,114]\/s=[53]\/s=[48]\/s=[53,58,48,45,48]\/s=[])
 |n+1,.tup xs=>mw n xs
 |n+1,.lst xs=>mw n xs
 |_,_=>false
noncomputable def mw:Nat->List Dat->Bool
 |_,[]=>true
 |n,x::r=>BN n x&&mw n r
end
mutual
noncomputable def Dj:Dat->Nat
 |.tup xs=>1+BO xs
 |.lst xs=>1+BO xs
 |_=>1
noncomputable def BO:List Dat->Nat
 |[]=>0
 |x::r=>Dj x+BO r
end
noncomputable def P0:List Dat->Option RV
 |[.tup xs]=>if BN 8 (.tup xs)=true/\Dj (.tup xs)<=900 then some (.val (.str (shw (.tup xs)))) else none
 |[.lst xs]=>if BN 8 (.lst xs)=true/\Dj (.lst xs)<=900 then some (.val (.str (shw (.lst xs)))) else none
 |_=>none
theorem repr_len{n:Nat}(h:n<10 ^ 100):n.repr.toList.length<=100:=by rw[Nat.toList_repr];exact(Nat.length_toDigits_le_iff (by decide) (by decide)).mpr h
theorem BP{i:Int}(h:i.natAbs<10 ^ 100):(shw (.int i)).length<=101:=by
 unfold shw codes;rw[Pa,Int.toString_eq_repr];unfold Int.repr;cases i with
 |ofNat m=>exact Yq (repr_len h)
 |negSucc m=>
  dsimp only;rw[String.toList_append,Vn];have:=repr_len (n:=m.succ) h;show 1+_<=101
  lia
theorem Aq:∀l:List (List Nat),(shJ l).length<=(l.map fun x=>x.length+2).sum
 |[]=>VN _
 |[x]=>by simp[shJ]
 |x::y::r=>by
  have:=Aq (y::r);unfold shJ;simp only[Vn,VX,gV,List.sum_cons]at this ⊢
  lia
mutual
theorem As:∀(n:Nat) (d:Dat),BN n d=true->(shw d).length+2<=110*Dj d
 |_,.non,_=>by decide
 |_,.bl b,_=>by cases b<;>decide
 |n,.int i,h=>by
  have:=BP (i:=i) (by cases n<;>exact of_decide_eq_true h);unfold Dj
  lia
 |n+1,.tup xs,h=>by have:=xD n xs h;have j:=Aq (oM xs);unfold shw Dj;simp only[VX,Vn];split<;>simp<;>lia
 |n+1,.lst xs,h=>by
  have:=xD n xs h;have j:=Aq (oM xs);unfold shw Dj;simp only[VX,Vn];simp
  lia
 |0,.tup xs,h=>by cases h
 |0,.lst xs,h=>by cases h
 |n,.str s,h=>by
  have h:s=[115,105,110,99,101]\/s=[110,101,118,101,114]\/s=[53]\/s=[48]\/s=[53,58,48,45,48]\/s=[]:=by cases n<;>exact of_decide_eq_true h
  rcases h with rfl | rfl | rfl | rfl | rfl | rfl<;>decide
 |0,.dct _ _,h=>by cases h
 |0,.dcp _ _,h=>by cases h
 |_+1,.dct _ _,h=>by cases h
 |_+1,.dcp _ _,h=>by cases h
 |0,.exc _,h=>by cases h
 |0,.cY _ _,h=>by cases h
 |_+1,.exc _,h=>by cases h
 |_+1,.cY _ _,h=>by cases h
 |0,.fn _,h=>by cases h
 |_+1,.fn _,h=>by cases h
theorem xD:∀(n:Nat) (xs:List Dat),mw n xs=true->((oM xs).map fun x=>x.length+2).sum<=110*BO xs
 |_,[],_=>by simp[oM]
 |n,x::r,h=>by
  unfold mw at h;rw[Vv]at h;have a:=As n x h.1;have b:=xD n r h.2;unfold oM BO;simp only[gV,List.sum_cons]
  lia
end
end Dm
namespace Br
open PySem PySem.Spec PyProof.Rows L2
mutual
noncomputable def pyD:Dat->PyData
 |.bl b=>.bool b
 |.int i=>.int i
 |.str s=>.str ⟨s.toArray⟩
 |.tup xs=>.tuple (oN xs)
 |.lst xs=>.list (oN xs)
 |_=>.none
noncomputable def oN:List Dat->List PyData
 |[]=>[]
 |x::r=>pyD x::oN r
end
theorem BQ:∀xs:List Dat,(oN xs).length=xs.length
 |[]=>rfl
 |x::r=>by simp[oN,BQ r]
theorem gC(s:String):Yz s=⟨(Dm.codes s).toArray⟩:=Str.ofString_eq_toList s
theorem kO(a b:List Nat):((⟨a.toArray⟩:Str)++(⟨b.toArray⟩:Str))=⟨(a++b).toArray⟩:=by show Str.append _ _=_;unfold Str.append;simp
theorem xE:∀l:List (List Nat),Str.join ", " (l.map fun x=>(⟨x.toArray⟩:Str))=⟨(Dm.shJ l).toArray⟩
 |[]=>rfl
 |[x]=>rfl
 |x::y::r=>by have:=xE (y::r);show (⟨x.toArray⟩:Str)++(", " : Str)++Str.join ", " ((y::r).map fun x=>(⟨x.toArray⟩:Str))=_;rw[this];have e:((", " : String):Str)=⟨[44,32].toArray⟩:=gC ", ";rw[e,kO x [44,32],kO (x++[44,32]) (Dm.shJ (y::r))];simp[Dm.shJ]
mutual
theorem BR:∀(n:Nat) (d:Dat),Dm.BN n d=true->(pyD d).shown=⟨(Dm.shw d).toArray⟩
 |_,.non,_=>by unfold pyD;rw[PyData.shown_none];exact gC "None"
 |_,.bl b,_=>by
  unfold pyD;rw[PyData.shown_bool];cases b
  ·exact gC "False"
  ·exact gC "True"
 |_,.int i,_=>by unfold pyD;rw[PyData.shown_int];exact gC (toString i)
 |n+1,.tup xs,h=>by
  unfold pyD;rw[PyData.shown_tuple,tQ n xs h,xE,BQ];have e1:(("(" : String):Str)=⟨[40].toArray⟩:=gC "(";rw[e1,kO [40] (Dm.shJ (Dm.oM xs))];unfold Dm.shw;by_cases q:(xs.length == 1)=true
  ·rw[if_pos q,if_pos q];have e2:((",)" : String):Str)=⟨[44,41].toArray⟩:=gC ",)";rw[e2,kO ([40]++Dm.shJ (Dm.oM xs)) [44,41]];simp
  ·rw[if_neg q,if_neg q];have e2:((")" : String):Str)=⟨[41].toArray⟩:=gC ")";rw[e2,kO ([40]++Dm.shJ (Dm.oM xs)) [41]];simp
 |n+1,.lst xs,h=>by unfold pyD;rw[PyData.shown_list,tQ n xs h,xE];have e1:(("[" : String):Str)=⟨[91].toArray⟩:=gC "[";have e2:(("]" : String):Str)=⟨[93].toArray⟩:=gC "]";rw[e1,e2,kO [91] (Dm.shJ (Dm.oM xs)),kO ([91]++Dm.shJ (Dm.oM xs)) [93]];unfold Dm.shw;simp
 |0,.tup xs,h=>by cases h
 |0,.lst xs,h=>by cases h
 |n,.str s,h=>by
  have h:s=[115,105,110,99,101]\/s=[110,101,118,101,114]\/s=[53]\/s=[48]\/s=[53,58,48,45,48]\/s=[]:=by cases n<;>exact of_decide_eq_true h
  unfold pyD;rw[PyData.shown_str];rcases h with rfl | rfl | rfl | rfl | rfl | rfl<;>decide +kernel
 |0,.dct _ _,h=>by cases h
 |0,.dcp _ _,h=>by cases h
 |_+1,.dct _ _,h=>by cases h
 |_+1,.dcp _ _,h=>by cases h
 |0,.exc _,h=>by cases h
 |0,.cY _ _,h=>by cases h
 |_+1,.exc _,h=>by cases h
 |_+1,.cY _ _,h=>by cases h
 |0,.fn _,h=>by cases h
 |_+1,.fn _,h=>by cases h
theorem tQ:∀(n:Nat) (xs:List Dat),Dm.mw n xs=true->PyData.shownAll (oN xs)=(Dm.oM xs).map fun x=>(⟨x.toArray⟩:Str)
 |_,[],_=>by unfold oN Dm.oM;rw[PyData.shownAll_nil];rfl
 |n,x::r,h=>by unfold Dm.mw at h;rw[Vv]at h;unfold oN Dm.oM;rw[PyData.shownAll_cons,BR n x h.1,tQ n r h.2];rfl
end
mutual
theorem IE:∀(n:Nat) (d:Dat),Dm.BN n d=true->(pyD d).showable=true/\(pyD d).hasDict=false/\(pyD d).depth<=n
 |_,.non,_=>by unfold pyD Xm Xr PyData.depth;exact⟨rfl,rfl,VN _⟩
 |_,.bl b,_=>by unfold pyD Xm Xr PyData.depth;exact⟨rfl,rfl,VN _⟩
 |n,.int i,h=>by
  unfold pyD Xm Xr PyData.depth;refine⟨decide_eq_true ?_,rfl,VN _⟩;have hi:i.natAbs<10 ^ 100:=by cases n<;>exact of_decide_eq_true h
  by_cases z:i.natAbs=0
  ·rw[z];decide
  ·exact(YQ z).mpr (YN hi (by decide))
 |n+1,.tup xs,h=>by obtain⟨h1,h2,h3⟩:=fits_of n xs h;unfold pyD Xm Xr PyData.depth;exact⟨h1,h2,by lia⟩
 |n+1,.lst xs,h=>by obtain⟨h1,h2,h3⟩:=fits_of n xs h;unfold pyD Xm Xr PyData.depth;exact⟨h1,h2,by lia⟩
 |0,.tup xs,h=>by cases h
 |0,.lst xs,h=>by cases h
 |n,.str s,h=>by unfold pyD Xm Xr PyData.depth;exact⟨rfl,rfl,VN _⟩
 |0,.dct _ _,h=>by cases h
 |0,.dcp _ _,h=>by cases h
 |_+1,.dct _ _,h=>by cases h
 |_+1,.dcp _ _,h=>by cases h
 |0,.exc _,h=>by cases h
 |0,.cY _ _,h=>by cases h
 |_+1,.exc _,h=>by cases h
 |_+1,.cY _ _,h=>by cases h
 |0,.fn _,h=>by cases h
 |_+1,.fn _,h=>by cases h
theorem fits_of:∀(n:Nat) (xs:List Dat),Dm.mw n xs=true->Yi (oN xs)=true/\Yv (oN xs)=false/\Wy (oN xs)<=n
 |_,[],_=>by unfold oN Yi Yv Wy;exact⟨rfl,rfl,VN _⟩
 |n,x::r,h=>by unfold Dm.mw at h;rw[Vv]at h;obtain⟨a1,a2,a3⟩:=IE n x h.1;obtain⟨b1,b2,b3⟩:=fits_of n r h.2;unfold oN Yi Yv Wy;exact⟨by rw[a1,b1];rfl,by rw[a2,b2];rfl,Nat.max_le.mpr ⟨a3,b3⟩⟩
end
section
variable{Dz:List (Addr×Obj)}{s:Shared}{σ:L2.St}{H:Hp}{X:Cx}
mutual
theorem BS(I:Inv X Dz σ H s):∀(n:Nat) (d:Dat) (v:V) (u:Value),Dm.BN n d=true->Rep H v d->RelV v u->∃as,Reads s.heap u (pyD d) as
 |_,.non,v,u,_,r,q=>by cases r;cases q;unfold pyD;exact⟨_,.none⟩
 |_,.bl b,v,u,_,r,q=>by cases r;cases q;unfold pyD;exact⟨_,.bool b⟩
 |_,.int i,v,u,_,r,q=>by cases r;obtain⟨t,rfl⟩:=q;unfold pyD;exact⟨_,.int i t⟩
 |n+1,.tup ds,v,u,h,r,q=>by
  cases r with
  |@tup a xs _ hq rs=>cases q;obtain⟨its,rv,⟨o,ho,hc,m,hd⟩,hz⟩:=I.tuple (SqT.of (K:=X.K) hq);obtain⟨as,ha⟩:=tR I n ds xs its h rs rv;unfold pyD;exact⟨as,.tuple ho hc hd (by simpa using ha)⟩
 |n+1,.lst ds,v,u,h,r,q=>by
  cases r with
  |@lst a xs _ hq rs=>cases q;obtain⟨its,rv,⟨o,m,ho,hc,_,hd⟩,hz⟩:=I.list (.inl hq);obtain⟨as,ha⟩:=tR I n ds xs its h rs rv;unfold pyD;exact⟨_,.list ho hc hd (by simpa using ha)⟩
 |0,.tup xs,_,_,h,_,_=>by cases h
 |0,.lst xs,_,_,h,_,_=>by cases h
 |n,.str s,v,u,_,r,q=>by cases r;obtain⟨t,rfl⟩:=q;unfold pyD;exact⟨_,.str _ t⟩
 |0,.dct _ _,_,_,h,_,_=>by cases h
 |0,.dcp _ _,_,_,h,_,_=>by cases h
 |_+1,.dct _ _,_,_,h,_,_=>by cases h
 |_+1,.dcp _ _,_,_,h,_,_=>by cases h
 |0,.exc _,_,_,h,_,_=>by cases h
 |0,.cY _ _,_,_,h,_,_=>by cases h
 |_+1,.exc _,_,_,h,_,_=>by cases h
 |_+1,.cY _ _,_,_,h,_,_=>by cases h
 |0,.fn _,_,_,h,_,_=>by cases h
 |_+1,.fn _,_,_,h,_,_=>by cases h
theorem tR(I:Inv X Dz σ H s):∀(n:Nat) (ds:List Dat) (vs:List V) (us:List Value),Dm.mw n ds=true->aN H vs ds->Vals vs us->∃as,ReadsAll s.heap us (oN ds) as
 |_,[],vs,us,_,r,q=>by cases r;cases q;unfold oN;exact⟨_,.nil⟩
 |n,d::ds,vs,us,h,r,q=>by
  cases r with
  |cons r rs=>
   cases q with
   |cons q qs=>unfold Dm.mw at h;rw[Vv]at h;obtain⟨as,ha⟩:=BS I n d _ _ h.1 r q;obtain⟨bs,hb⟩:=tR I n ds _ _ h.2 rs qs;unfold oN;exact⟨_,.cons ha hb⟩
end
end
def P1:List V->Hp->VK->Prop:=fun xs H Q=>∃(a:Addr) (d:Dat),xs=[.ref a]/\Dm.BN 8 d=true/\(Dm.shw d).length<=sizeLine/\Rep H (.ref a) d/\Q (.str ⟨(Dm.shw d).toArray⟩) H
theorem BU{X:Cx}{k:Nat}(hr:bP k X.A):fy X (.type "str") P1:=by intro Dz s σ H xs us Q I r h;obtain⟨a,d,rfl,hd,hz,rd,q⟩:=h;obtain⟨u,rfl,rx⟩:=vals1 r;cases rx;obtain⟨as,ha⟩:=BS I 8 d _ _ hd rd rfl;obtain⟨f1,f2,f3⟩:=IE 8 d hd;have sh:=BR 8 d hd;have un:=hr.un;refine str_of_reads ha f1 (fun z=>by rw[f2]at z;cases z) hr.gd (by lia) (fun _ _ e=>e) (fun h' u tk kp=>?_) (by rw[sh];exact Nat.le_trans (by show (Dm.shw d).toArray.size<=_;simp) hz);rw[sh];exact⟨.str ⟨(Dm.shw d).toArray⟩,H,I.kept (t':=tk) kp,⟨u,rfl⟩,q⟩
theorem P4:CallD P1 Dm.P0:=by
 intro H0 H vs ds z Q s rs e k;have sz:110*900<=sizeLine:=by decide
 unfold Dm.P0 at e;split at e
 ·split at e
  ·rename_i hk;cases e;cases rs with
   |cons r rr=>
    cases rr;rcases r with r | ⟨a,_,w⟩
    ·cases r with
     |tup q rs=>have rp:Rep H (.ref _) (.tup _):=.tup (s _ _ q) (rs.mono s);have:=Dm.As 8 _ hk.1;have h2:=hk.2;exact⟨_,_,rfl,hk.1,by lia,rp,k _ H0 H (aW.refl s) (.str _)⟩
    ·exact Vx w
  ·cases e
 ·split at e
  ·rename_i hk;cases e;cases rs with
   |cons r rr=>cases rr;obtain⟨a,us,rfl,qa,ra⟩:=cM s r;have rp:Rep H (.ref a) (.lst _):=.lst qa (ra.mono s);have:=Dm.As 8 _ hk.1;have h2:=hk.2;exact⟨_,_,rfl,hk.1,by lia,rp,k _ H0 H (aW.refl s) (.str _)⟩
  ·cases e
 ·cases e
end Br
set_option maxHeartbeats 4000000
namespace Ts
open PySem PyProof.Rows
variable{A:Around}{E:Value->Shared->Prop}{s:Shared}{prog:Program}{w:World}
end Ts
namespace Br
open PySem PySem.Spec PyProof.Rows L2
theorem okQ{P:Program}{w:World}{K:Dk}{mg:Str->Option Value}{base:Heap}{x qual:Str}{st:Stmt}{f:Addr}{fd:FuncData}{N ps:List Str}{k n m:Nat}{body:FS}(F:Fun K x qual st f fd)(S:bg N ps (aF st))
  (hb:∀(cdv:Value) (A:Around) (outer:List Env) (s:Shared) (H:Hp) (E:XK),bP k (A.deeper (envOfC qual (aF st) s.heap.objs.size f cdv))->DSs (lQ CX0 P w K mg base N qual (aF st) f cdv A outer s H E).nox (bH st) body)
  (hn:ps.length=n:=by rfl) (hm:N.length=n+m:=by rfl):ck P w K mg base CX0 (k+1) f fd ps (spD (Dm.fn n m body)):=
 F.ok S (fun vs H Q E h=>(Hx h).trans hn.symm) fun cdv A outer s H vs Q E hr h=>⟨_,hb cdv A outer s H E hr,Ug hm h⟩
end Br
namespace Dm
noncomputable def jD:List (Int×Int)->List Dat->Int×Int->Option Dat
 |k::ks,v::vs,p=>if k=p then some v else jD ks vs p
 |_,_,_=>none
noncomputable def zz:List (Int×Int)->List Dat->Int×Int->Dat->List Dat
 |k::ks,v::vs,p,d=>(if k=p then d else v)::zz ks vs p d
 |_,_,_,_=>[]
noncomputable def xF(ks:List (Int×Int))(p:Int×Int):Bool:=ks.any fun k=>decide (k=p)
noncomputable def ja(ks:List (Int×Int))(p:Int×Int):List (Int×Int):=if xF ks p then ks else ks++[p]
noncomputable def jN(ks:List (Int×Int))(vs:List Dat)(p:Int×Int)(d:Dat):List Dat:=if xF ks p then zz ks vs p d else vs++[d]
noncomputable def pairD(p:Int×Int):Dat:=.tup [.int p.1,.int p.2]
noncomputable def IF:FE:=fun ρ=>some (.new (.dcp [] []),ρ)
noncomputable def BV:Dat->Dat->Option RV
 |.dcp ks vs,.tup [.int i,.int j]=>(jD ks vs (i,j)).map .val
 |_,_=>none
noncomputable def o6:Dat->Dat->Option RV
 |.tup [.int i,.int j],.dcp ks vs=>vB (jD ks vs (i,j)).isSome
 |_,_=>none
noncomputable def jO:List Dat->Option RV
 |[.dcp ks _]=>if ks.length<=SZ then some (.new (.lst (ks.map pairD))) else none
 |_=>none
noncomputable def mz(i:Nat)(j e:FE):FS:=fun ρ=>match e ρ with
 |none=>none
 |some (x,ρ1)=>match tk ρ1 x with
  |none=>none
  |some (d,ρ2)=>match ρ2[i]? with
   | some (.ow _)=>(match j ρ2 with
    | some (.val (.tup [.int p,.int q]),ρ3)=>(match ρ3[i]? with
     |some (.ow (.dcp ks vs))=>if ks.length<SZ then some (.nx (ρ3.set i (.ow (.dcp (ja ks (p,q)) (jN ks vs (p,q) d))))) else none
     |_=>none)
    |_=>none)
   |_=>none
end Dm
namespace Br
open PySem PySem.Spec PyProof.Rows L2
section
variable{ks:List (Int×Int)}{kvs:List (List Key×V)}{ds:List Dat}{p:Int×Int}{H0:Hp}{v:V}{d:Dat}{H:Hp}
theorem Au{p q:Int×Int}(h:kP p=kP q):p=q:=by
 unfold kP at h;injection h with h1 h2
 injection h2 with h2 _
 cases p;cases q;exact Prod.ext (Sum.inl.inj h1) (Sum.inl.inj h2)
theorem ko{H0 H:Hp}(s:aJ H0 H)(r:o_ H0 H v (.dcp ks ds)):∃a x,v=.ref a/\H a=some (.dT x.1 x.2)/\FJ H0 x ks/\aN H0 (x.1.map (·.2)) ds:=by
 rcases r with r | ⟨a,e,x,q,ek,rs⟩
 ·cases r with
  |dcp q ek rs=>exact⟨_,_,rfl,s _ _ q,ek,rs⟩
 ·exact⟨a,x,e,q,ek,rs⟩
theorem kr{H0 H:Hp}(s:aJ H0 H){i j:Int}(r:o_ H0 H v (.tup [.int i,.int j])):∃b,v=.ref b/\H0 b=some (.tup ((kP (i,j)).map kV)):=by
 rcases r with r | ⟨a,e,w⟩
 ·cases r with
  |tup q rs=>
   cases rs with
   |cons r1 rr=>
    cases rr with
    |cons r2 rr=>cases rr;cases r1;cases r2;exact⟨_,rfl,q⟩
 ·exact w.elim
theorem mC(p:Int×Int):∀{kvs:List (List Key×V)} {ks:List (Int×Int)} {ds:List Dat},kvs.map (·.1)=ks.map kP->aN H0 (kvs.map (·.2)) ds ->
  (∃d v,Dm.jD ks ds p=some d/\lR kvs (kP p)=some v/\Rep H0 v d)\/(Dm.jD ks ds p=none/\lR kvs (kP p)=none)
 |[],[],_,_,r=>by cases r;exact .inr ⟨rfl,rfl⟩
 |[],_::_,_,e,_=>by cases e
 |_::_,[],_,e,_=>by cases e
 |(k0,v0)::kvs,k::ks,_,e,r=>by
  rw[gV]at r;cases r with
  |cons r0 rr=>
   rw[gV,gV]at e;injection e with e1 e2
   have e1:k0=kP k:=e1;subst e1;unfold Dm.jD;by_cases h:k=p
   ·subst h;rw[if_pos rfl];exact .inl ⟨_,v0,rfl,lX rfl,r0⟩
   ·rw[if_neg h,lY (fun q=>h (Au q))];exact mC p e2 rr
theorem Av(p:Int×Int):∀{kvs:List (List Key×V)} {ks:List (Int×Int)},kvs.map (·.1)=ks.map kP->(kvs.any fun kv=>decide (kv.1=kP p))=Dm.xF ks p
 |[],[],_=>rfl
 |[],_::_,e=>by cases e
 |_::_,[],e=>by cases e
 |(k0,v0)::kvs,k::ks,e=>by
  rw[gV,gV]at e;injection e with e1 e2
  have e1:k0=kP k:=e1;subst e1;unfold Dm.xF;rw[WD,WD,Av p e2];unfold Dm.xF
  congr 1
  by_cases h:k=p
  ·subst h;simp
  ·have:¬kP k=kP p:=fun q=>h (Au q);simp[h,this]
theorem BW(p:Int×Int)(rv:Rep H0 v d):∀{kvs:List (List Key×V)} {ks:List (Int×Int)} {ds:List Dat},kvs.map (·.1)=ks.map kP->aN H0 (kvs.map (·.2)) ds ->
  ((kvs.map fun kv=>if kv.1=kP p then (kv.1,v) else kv).map (·.1)=ks.map kP)/\aN H0 ((kvs.map fun kv=>if kv.1=kP p then (kv.1,v) else kv).map (·.2)) (Dm.zz ks ds p d)
 |[],[],_,_,r=>by cases r;exact⟨rfl,.nil⟩
 |[],_::_,_,e,_=>by cases e
 |_::_,[],_,e,_=>by cases e
 |(k0,v0)::kvs,k::ks,_,e,r=>by
  rw[gV]at r;cases r with
  |cons r0 rr=>
   rw[gV,gV]at e;injection e with e1 e2
   have e1:k0=kP k:=e1;subst e1;obtain⟨i1,i2⟩:=BW p rv e2 rr;unfold Dm.zz;by_cases h:k=p
   ·subst h;rw[if_pos rfl,gV,gV,gV,i1];simp only[if_true];exact⟨trivial,.cons rv i2⟩
   ·rw[if_neg h,gV,gV,gV,i1];have:¬kP k=kP p:=fun q=>h (Au q);simp only[this,if_false];exact⟨trivial,.cons r0 i2⟩
theorem Ly(p:Int×Int)(rv:Rep H0 v d)(e:kvs.map (·.1)=ks.map kP)(r:aN H0 (kvs.map (·.2)) ds) :
  (putK kvs (kP p) v).map (·.1)=(Dm.ja ks p).map kP/\aN H0 ((putK kvs (kP p) v).map (·.2)) (Dm.jN ks ds p d):=by
 have ha:=Av p e;unfold putK Dm.ja Dm.jN;rw[ha];cases hb:Dm.xF ks p with
 |true=>simp only[if_true];exact BW p rv e r
 |false=>simp only[V3,if_false];rw[Vy,Vy,Vy,e];exact⟨rfl,r.append (.cons rv .nil)⟩
theorem ee.snoc{t:Addr}(h:H t=some (.tup [V.int p.1,V.int p.2])):∀{ts:List Addr} {ks:List (Int×Int)},ee H ts ks->ee H (ts++[t]) (ks++[p])
 |[],[],_=>⟨h,trivial⟩
 |_::_,_::_,q=>⟨q.1,ee.snoc h q.2⟩
 |[],_::_,q=>q.elim
 |_::_,[],q=>q.elim
theorem IG{b:Addr}(hb:H b=some (.tup ((kP p).map kV))){ts:List Addr}(e:kvs.map (·.1)=ks.map kP)(k:ee H ts ks):ee H (CW kvs ts (kP p) b) (Dm.ja ks p):=by
 unfold CW Dm.ja;rw[Av p e];cases Dm.xF ks p with
 |true=>simpa using k
 |false=>simpa using ee.snoc hb k
theorem zA:∀{ts:List Addr} {ks:List (Int×Int)},ee H ts ks->aN H (ts.map V.ref) (ks.map Dm.pairD)
 |[],[],_=>.nil
 |_::_,_::_,q=>.cons (.tup q.1 (.cons (.int _) (.cons (.int _) .nil))) (zA q.2)
 |[],_::_,q=>q.elim
 |_::_,[],q=>q.elim
theorem P5:OpD (fun x y H Q=>∃a v,x=.ref a/\jh H a y (some v)/\Q v H) Dm.BV:=by
 intro H0 H x y dx dy z Q s rx ry e k;unfold Dm.BV at e;split at e
 ·rename_i ks vs i j;obtain⟨b,rfl,hb⟩:=kr s ry;obtain⟨a,x,rfl,qa,ek,rs⟩:=ko s rx;rcases mC (i,j) ek.1 rs with⟨d,v,l1,l2,r⟩ | ⟨l1,_⟩
  ·rw[l1]at e;cases e;refine⟨a,v,rfl,?_,k _ H0 H (aW.refl s) r⟩;have:=jh.t (k:=kP (i,j)) qa (s _ _ hb);rw[l2]at this;exact this
  ·rw[l1]at e;cases e
 ·cases e
theorem Lz:OpD (fun y x H Q=>∃a o,x=.ref a/\jh H a y o/\Q (.bl o.isSome) H) Dm.o6:=by
 intro H0 H x y dx dy z Q s rx ry e k;unfold Dm.o6 at e;split at e
 ·rename_i i j ks vs;cases e;obtain⟨b,rfl,hb⟩:=kr s rx;obtain⟨a,x,rfl,qa,ek,rs⟩:=ko s ry;refine⟨a,_,rfl,jh.t (k:=kP (i,j)) qa (s _ _ hb),k _ H0 H (aW.refl s) ?_⟩;rcases mC (i,j) ek.1 rs with⟨d,v,l1,l2,r⟩ | ⟨l1,l2⟩
  ·rw[l1,l2];exact .bl _
  ·rw[l1,l2];exact .bl _
 ·cases e
def II:List V->Hp->VK->Prop:=fun xs H Q=>∃(a:Addr) (kvs:List (List Key×V)) (ts:List Addr),xs=[.ref a]/\H a=some (.dT kvs ts)/\∀l,H l=none->Q (.ref l) (upd H l (.lst (ts.map V.ref)))
theorem zB:∀ts:List Addr,Vals (ts.map V.ref) (ts.map VF)
 |[]=>.nil
 |_::ts=>.cons rfl (zB ts)
theorem Dl{X:Cx}(hc:X.calm=true):fy X (.type "list") II:=by
 intro Dz s σ H xs us Q I r h;obtain⟨a,kvs,ts,rfl,hq,k⟩:=h;obtain⟨u,rfl,rx⟩:=vals1 r;cases rx;obtain⟨z,hd,ys,rel,o,es,ep,h1,h2,h3,h4,h5,h6⟩:=(show bC X.prog X.w H s.heap a (.dT kvs ts) from I.hok a _ hq)
 have hkeys:(es.map (·.key)).toList=ts.map VF:=by rw[Array.toList_map,h4,<- h6,V0,V0];rfl
 have hsz:es.size=ts.length:=by
  have:=congrArg List.length hkeys
  simpa using this
 have hyl:ys.length=ts.length:=by rw[<- h6,Pa]
 have hl:ts.length<=sizeLine:=by rw[<- hyl,<- Paired.length rel];exact z
 refine PySem.W.kdl_call (Sx.PZ (es:=es) (ep:=ep) hd) (I.ok.hd hc) ⟨o,h1,h2,h3⟩ (by rw[hsz];exact hl) fun h' tk Qa c hk hL hacc=>?_;have hal:Qa.toList=ts.map VF:=by
  apply W9;intro i;by_cases hi:i<es.size
  ·have e1:Qa.toList[i]?=some (Qa.toList[i]'(by rw[Vu,hacc.1];exact hi)):=V2 _;have:=hacc.2 i _ (by rw[<- V4];exact e1);rw[<- hkeys,e1,<- this,V4]
  ·rw[VJ (by rw[Vu,hacc.1];lia),VJ (by rw[Pa,<- hsz];lia)]
 have hobj:bC X.prog X.w (upd H s.heap.objs.size (.lst (ts.map V.ref))) h' s.heap.objs.size (.lst (ts.map V.ref)):=by refine⟨by rw[Pa];exact hl,ts.map VF,c,zB ts,?_⟩;rw[hL,<- hal]
 exact⟨.ref s.heap.objs.size,_,I.laid (t':=tk) hk (Nat.le_refl _) hobj,rfl,k _ (I.hok.fresh (Nat.le_refl _))⟩
theorem IK:CallD II Dm.jO:=by
 intro H0 H vs ds z Q s rs e k;unfold Dm.jO at e;split at e
 ·split at e
  case isFalse=>cases e
  cases e;cases rs with
  |cons r rr=>cases rr;obtain⟨a,x,rfl,qa,ek,ra⟩:=ko s r;exact⟨a,x.1,x.2,rfl,qa,fun p hp=>k _ _ _ (aW.wX s hp) ⟨p,rfl,hp,s.free hp,_,aL,zA ek.2⟩⟩
 ·cases e
end
section
variable{σ:L2.St}{H:Hp}{Q:VK}{D:Ends}
theorem SE(h:tD Dm.IF σ H Q):G_ σ H Q:=by obtain⟨H0,ρ,x,ρ',st,e,k⟩:=h;cases e;intro p hp;have g:=aW.wX (o:=HO.dT [] []) st.same hp;exact k _ _ _ (.grow st g) ⟨p,rfl,hp,st.cL hp,st.same.free hp,([],[]),aL,⟨rfl,trivial⟩,.nil⟩
theorem LA{i:Nat}{j f:FE}(h:tDS (Dm.mz i j f) D σ H):G6 (yE i) (tD j) (tD f) D σ H:=by
 obtain⟨H0,ρ,o,st,e,k⟩:=h;unfold Dm.mz at e;split at e
 ·cases e
 rename_i x ρ1 e1;split at e
 ·cases e
 rename_i d ρ2 e2;split at e
 case h_2=>cases e
 rename_i d0 h2;split at e
 ·rename_i m n ρ3 e3;split at e
  ·rename_i ks vs h3;split at e
   case isFalse=>cases e
   rename_i hz;cases e;refine⟨H0,ρ,_,ρ1,st,e1,fun v H0' H' t r=>?_⟩;obtain⟨H1,t1,b1,r1,_,_⟩:=take1 t (aJ.refl _) r e2;obtain⟨a0,q0,_,_⟩:=t1.st.ow i _ h2;refine⟨_,q0,H1,ρ2,_,ρ3,t1.st,e3,fun u H2 Hc t2 r2=>?_⟩;obtain⟨a,q,n',w⟩:=t2.st.ow i _ h3;rw[q0]at q;cases q;obtain⟨y,yy,ek,rs⟩:=w;obtain⟨b,rfl,hb⟩:=kr t2.st.same (.inl r2);obtain⟨p1,p2⟩:=Ly (m,n) (r1.mono t2.stp.s0) ek.1 rs;have IY:y.1.length=ks.length:=by
    have:=congrArg List.length ek.1
    simpa using this
   refine⟨a0,_,rfl,A9.t (k:=kP (m,n)) yy (t2.st.same _ _ hb) (by rw[IY];exact Vr hz (by decide)),?_⟩;have ow:aE σ ρ3 a0:=⟨i,_,h3,q0⟩
   have tt:=t1.trans t2;exact k σ H2 _ ⟨t2.st.write h3 q0 ⟨(putK y.1 (kP (m,n)) v,CW y.1 y.2 (kP (m,n)) b),aL,⟨p1,IG hb ek.1 ek.2⟩,p2⟩,tt.stp.trans (Stp.write ow) fun b z=>.inl (tt.own b z),fun b z=>.inl (tt.own b (cZ h3 z)),rfl⟩
  ·cases e
 ·cases e
end
section
variable{X:Cx}{a b e:Expr}{fa fb f:FE}{pos:Pos}{k:Nat}
theorem Nj:DE X (.Dict [] [] pos) Dm.IF:=PE.weak Hg fun _ _ _=>SE
theorem SG(hr:bP k X.A)(ha:DE X a fa)(hb:DE X b fb)(hs:Kv b:=by intro _ _;rfl):DE X (.Subscript a b pos) (Dm.e2 Dm.BV fa fb):=PE.weak (Eo (u1 hr) ha hb hs) fun _ _ _=>z_ P5
theorem Aw(i:Nat){x:Str}{px sp:Pos}(hr:bP k X.A)(hb:DE X b fb)(he:DE X e f)(hi:X.N[i]?=some x:=by rfl)(hv:Vis X.env.scope x:=by trivial)(hd:(x == ("__debug__" : Str))=false:=by decide)
  (SK:(x == ("__classdict__" : Str))=false:=by decide) (hs:swapsWith e (some (.Subscript (.Name x px) b sp)) pos.line X.env=pure false:=by rfl):DS X (.Assign [.Subscript (.Name x px) b sp] e pos) (Dm.mz i fb f):=
 PS.weak (Ep (u1 hr) (kG hi hv hd SK) hb he hs) fun _ _ _=>LA
theorem LB{fs:List FE}{p:Pos}(hc:X.calm=true)(hg:Gl X "list")(hm:X.mg "list" = none)(ha:DA X [e] fs)(he:starEach [e] X.env=[(false,eval e X.env)]:=by rfl)(Nm:(backTo pos (starEach [] X.env)).any (·.1)=false:=by rfl):DE X (.Call (.Name "list" p) [e] [] pos) (Dm.eB Dm.jO fs):=HJ (Dl hc) IK (by rfl) hg hm ha (he:=he) (Nm:=Nm)
end
end Br
namespace Dm
open Classical in
noncomputable def zC:List Dat->Option RV
 |[.non]=>some (.val (.str (codes "None")))
 |[.bl b]=>some (.val (.str (codes (if b then "True" else "False"))))
 |[.int i]=>if i.natAbs<10 ^ 100 then some (.val (.str (codes (toString i)))) else none
 |[.str s]=>some (.val (.str s))
 |[.dct [] []]=>some (.val (.str (codes "{}")))
 |ds=>P0 ds
end Dm
namespace Br
open PySem PySem.Spec PyProof.Rows L2
def Nk:List V->Hp->VK->Prop:=fun xs H Q=>(xs=[.non]/\Q (.str ⟨(Dm.codes "None").toArray⟩) H)\/(∃b,xs=[.bl b]/\Q (.str ⟨(Dm.codes (if b then "True" else "False")).toArray⟩) H)\/(∃i:Int,xs=[.int i]/\i.natAbs<10 ^ 100/\Q (.str ⟨(Dm.codes (toString i)).toArray⟩) H) \/
 (∃s,xs=[.str s]/\Q (.str s) H)\/(∃a,xs=[.ref a]/\H a=some (.dK [])/\Q (.str ⟨(Dm.codes "{}").toArray⟩) H)\/P1 xs H Q
theorem Gb{X:Cx}{k:Nat}(hr:bP k X.A):fy X (.type "str") Nk:=by
 intro Dz s σ H xs us Q I r h;rcases h with⟨rfl,q⟩ | ⟨b,rfl,q⟩ | ⟨i,rfl,hi,q⟩ | ⟨x,rfl,q⟩ | ⟨a,rfl,ha,q⟩ | h
 ·obtain⟨u,rfl,rx⟩:=vals1 r;cases rx;exact P.str_of_none ⟨.str ⟨(Dm.codes "None").toArray⟩,H,I.tok _,⟨_,congrArg (XC · _) (gC "None")⟩,q⟩
 ·obtain⟨u,rfl,rx⟩:=vals1 r;cases rx;refine P.str_of_bool ⟨.str ⟨(Dm.codes (if b then "True" else "False")).toArray⟩,H,I.tok _,⟨s.toks,?_⟩,q⟩;cases b
  ·exact congrArg (XC · _) (gC "False")
  ·exact congrArg (XC · _) (gC "True")
 ·obtain⟨u,rfl,tk,rfl⟩:=vals1 r;refine P.str_of_int ?_ ⟨.str ⟨(Dm.codes (toString i)).toArray⟩,H,I.tok _,⟨_,congrArg (XC · _) (gC _)⟩,q⟩;by_cases z:i.natAbs=0
  ·rw[z];decide
  ·exact(YQ z).mpr (Vr hi (Nat.le_trans (Nat.pow_le_pow_left (by decide:10<=2 ^ 4) 100) (by rw[<- Nat.pow_mul];exact Nat.pow_le_pow_right (by decide) (by decide))))
 ·obtain⟨u,rfl,tk,rfl⟩:=vals1 r;exact P.str_of_str ⟨.str x,H,I,⟨_,rfl⟩,q⟩
 ·obtain⟨u,rfl,rx⟩:=vals1 r;cases rx;obtain⟨hz,hS,vs,rv,m⟩:=G3 I.hok ha;cases rv;obtain⟨o,es,ep,ho,xd,hd,_,pr,_⟩:=m;have hes:es.toList=[]:=by cases hq:es.toList with
   |nil=>rfl
   |cons y ys=>rw[hq]at pr;cases pr
  have un:=hr.un;have rd:Reads s.heap (.ref a) (.dict []) (a::[]++[]):=.dict ho xd.1 hd (by rw[hes];exact .nil) (by rw[hes];exact .nil);have sh:(PyData.dict []).shown=⟨(Dm.codes "{}").toArray⟩:=by rw[PyData.shown_dict];decide +kernel
  have dp:(PyData.dict []).depth<=2:=by decide
  refine str_of_reads rd (by decide) (fun _ z=>?_) hr.gd (by lia) (fun _ _ e=>e) (fun h' u tk kp=>?_) (by rw[sh];decide)
  ·have:sysModules=a:=by simpa using z
   rw[<- this]at hS;simp at hS
  ·rw[sh];exact⟨.str ⟨(Dm.codes "{}").toArray⟩,H,I.kept (t':=tk) kp,⟨u,rfl⟩,q⟩
 ·exact BU hr Dz s σ H xs us Q I r h
theorem LC:CallD Nk Dm.zC:=by
 intro H0 H vs ds z Q s rs e k;unfold Dm.zC at e;split at e
 ·cases e;cases rs with
  |cons r rr=>
   cases rr;rcases r with r | ⟨a,_,w⟩
   ·cases r;exact .inl ⟨rfl,k _ H0 H (aW.refl s) (.str _)⟩
   ·exact Vx w
 ·cases e;cases rs with
  |cons r rr=>
   cases rr;rcases r with r | ⟨a,_,w⟩
   ·cases r;exact .inr (.inl ⟨_,rfl,k _ H0 H (aW.refl s) (.str _)⟩)
   ·exact Vx w
 ·split at e
  case isFalse=>cases e
  rename_i hi;cases e;cases rs with
  |cons r rr=>
   cases rr;rcases r with r | ⟨a,_,w⟩
   ·cases r;exact .inr (.inr (.inl ⟨_,rfl,hi,k _ H0 H (aW.refl s) (.str _)⟩))
   ·exact Vx w
 ·cases e;cases rs with
  |cons r rr=>
   cases rr;rcases r with r | ⟨a,_,w⟩
   ·cases r;exact .inr (.inr (.inr (.inl ⟨_,rfl,k _ H0 H (aW.refl s) (.str _)⟩)))
   ·exact Vx w
 ·cases e;cases rs with
  |cons r rr=>
   cases rr;refine .inr (.inr (.inr (.inr (.inl ?_))));rcases r with r | ⟨a,rfl,xs,q,e1,e2⟩
   ·cases r with
    |dct q e1 e2=>
     rename_i a kvs;have:kvs=[]:=by cases kvs with
      |nil=>rfl
      |cons _ _=>cases e1
     subst this;exact⟨a,rfl,s _ _ q,k _ H0 H (aW.refl s) (.str _)⟩
   ·have:xs=[]:=by cases xs with
     |nil=>rfl
     |cons _ _=>cases e1
    subst this;exact⟨a,rfl,q,k _ H0 H (aW.refl s) (.str _)⟩
 ·exact .inr (.inr (.inr (.inr (.inr (P4 H0 H vs _ z Q s rs e k)))))
section
variable{X:Cx}{e:Expr}{fs:List FE}{p pos:Pos}{k:Nat}
theorem P6(hr:bP k X.A)(hg:Gl X "str")(hm:X.mg "str" = none)(ha:DA X [e] fs)(he:starEach [e] X.env=[(false,eval e X.env)]:=by rfl)(Nm:(backTo pos (starEach [] X.env)).any (·.1)=false:=by rfl):DE X (.Call (.Name "str" p) [e] [] pos) (Dm.eB Dm.zC fs):=HJ (Gb hr) LC (by rfl) hg hm ha (he:=he) (Nm:=Nm)
end
end Br
namespace PySem.W
open PySem PySem.Spec PySem.Calls PyProof.Rows
noncomputable def isI(K:Frag)(C fI:Addr)(bmB:List Value)(newId:String):Bool:=match K.lookup C with
 | some o=>o.cls == .type "type" && (match o.data with
  |.cls c=>c.mro.head? == some (.ref C)&&(c.hasDict&&!c.hasDel)&&tailIn K bmB c.mro.tail&&(o.slots.size == 6&&o.slots[4]? == some (some (.builtin newId)))
  |_=>false)
 |none=>false
end PySem.W
namespace L2
open PySem PySem.Spec PyProof.Rows
structure SH(x:Str)(C fI:Addr)(bmB:List Value)(newId:String)(K:Dk)(mg:Str->Option Value)(base:Heap):Prop where
 bound:mg x=some (.ref C)
 kp:Wc K (.ref C)=true
 init:Vj K (.ref C) "__init__" = some (some (.ref fI))
 fn:X7 K (.ref fI)=some (.type "function")
 obj:∃bm N nm q bs sn sub ab col dd k0 k1 k2 k3 k5,base.get? C=some (excClassObj nm q C N bs bm true sn sub ab col dd k0 k1 k2 k3 k5 newId)/\OwnTail base bmB bm
theorem LD{x:Str}{C fI:Addr}{bmB:List Value}{newId:String}{K:Dk}{mg:Str->Option Value}{base:Heap}(X:K.In base)(bound:mg x=some (.ref C))(kp:Wc K (.ref C)=true)
  (init:Vj K (.ref C) "__init__" = some (some (.ref fI))) (fn:X7 K (.ref fI)=some (.type "function")) (q:PySem.W.isI K C fI bmB newId=true):SH x C fI bmB newId K mg base:=by
 refine⟨bound,kp,init,fn,?_⟩;unfold PySem.W.isI at q;split at q
 case h_2=>cases q
 rename_i o ho;obtain⟨oc,od,dt,sl⟩:=o;cases dt with
 |cls c=>
  obtain⟨nm,bs,mro,ns,qn,hd,sn,sub,ab,col,del⟩:=c;simp only[Vv,beq_iff_eq,Yt]at q;obtain⟨rfl,⟨⟨⟨q1,rfl,rfl⟩,q2⟩,q3,q4⟩⟩:=q;cases mro with
  |nil=>cases q1
  |cons v bm=>
   cases q1;obtain⟨l⟩:=sl;have hl:l.length=6:=q3
   match l,hl,q4 with
   |[k0,k1,k2,k3,k4,k5],_,q4=>
    have:k4=some (.builtin newId):=by simpa using q4
    subst this;exact⟨bm,ns,nm,qn,bs,sn,sub,ab,col,od,k0,k1,k2,k3,k5,X _ _ ho,PySem.W.tail_of_in X q2⟩
 |_=>simp at q
section
variable{P:Program}{w:World}{K:Dk}{mg:Str->Option Value}{base:Heap}{N:List Str}{qual:Str}{scope:Scope}{f:Addr}{cd:Value}{A:Around}{outer:List Env}{s₀:Shared}{H₀:Hp}{E:XK}{C:Addr}
 {Dz:List (Addr×Obj)} {σ:St} {H:Hp} {s:Shared}
end
end L2
namespace Pz
open PySem
section
variable{K:Type}[DecidableEq K]
noncomputable def rJ(xs:List (K×Addr×Value))(k:K):List (K×Addr×Value):=xs.filter fun x=>decide (x.1≠k)
theorem uW{β:Type}(f:K×Addr×Value->β){k:K}:∀{xs:List (K×Addr×Value)} {j:Nat} {p:Addr×Value},(xs.map (·.1)).Nodup->xs[j]?=some (k,p)->(xs.map f).eraseIdx j=(rJ xs k).map f
 |[],_,_,_,h=>by simp at h
 |x::r,j,p,hn,h=>by
  rw[gV,VI]at hn;cases j with
  |zero=>
   simp only[XJ,Option.some.injEq]at h;subst h;unfold rJ;rw[Wn (by simp),gV,List.eraseIdx_cons_zero]
   congr 1
   refine(Xy.mpr fun y hy=>?_).symm;exact decide_eq_true fun e=>hn.1 (VE.mpr ⟨y,hy,e⟩)
  |succ j=>simp only[WZ]at h;have hm:k∈r.map (·.1):=VE.mpr ⟨(k,p),WG h,rfl⟩;have UN:x.1≠k:=fun e=>hn.1 (e▸hm);unfold rJ;rw[Wo (by simpa using UN),gV,gV,List.eraseIdx_cons_succ,uW f hn.2 h];rfl
end
section
variable{prog:Program}{w:World}{K:Type}[DecidableEq K]{knd:HeapKind prog w K}{A:Around}{E:Value->Shared->Prop}{s:Shared}{d a:Addr}{k:K}{xs:List (K×Addr×Value)}
theorem Ax{p:Addr×Value}{Q:Option DictEntry->Shared->Prop}(hu:knd.room A)(hkey:knd.is s.heap k a)(hm:s.heap.DictOfH knd d xs)(hp:atKey xs k=some p)(hsz:xs.length<=sizeLine)
  (h:∀h',h'.DictOfH knd d (rJ xs k)->WS d s.heap h'->Q (some ⟨knd.hash k,.ref p.1,p.2⟩) { s with heap:=h',toks:=s.toks+knd.draws k }):wpAny (model prog w) A (Builtin.Dict.takeOut d (.ref a)) Q E s:=by
 obtain⟨o,es,ep,ho,hc,hd,he,his,hn⟩:=hm;unfold Builtin.Dict.takeOut
 try with_reducible refine wpAny_holding ?_
 refine wpAny_bind (knd.pyHash hu hkey (wpAny_bind (wpAny_dictFind_heap (s:={ s with toks:=s.toks+knd.draws k }) hu hkey ho hd he his hn ?_ ?_)))
 ·intro hno;rw[atKey_none_of_get hno]at hp;exact nomatch hp
 ·intro j q hj;have e:=atKey_of_get hn hj;rw[e]at hp;cases hp;refine wpAny_bind (wpAny_dictEntries (s:={ s with toks:=s.toks+knd.draws k }) ho hd ?_);rw[entry_at he j,hj];refine wpAny_bind (wpAny_updateDictKeys (hz:=by rw [size_of_entries he];exact hsz) (s:={ s with toks:=s.toks+knd.draws k }) ho hd (wpAny_pure (h _ ⟨_,_,ep+1,WQ _ ho (Obj.isFreed_of_dict (Obj.data_mapDictKeys hd _)),
   hc.mapDictKeys _,Obj.data_mapDictKeys hd _,?_,fun x hx=>knd.keeps (his x (Wd.mp hx).1) ho hd (WN ..),?_⟩ (WN ..))))
  ·have:=uW (entryOfKey knd) hn hj;rw[<- he]at this;rw[<- this];obtain⟨l⟩:=es;have hl:j<l.length:=by
    have:=size_of_entries he;have h2:=(Vm.mp hj).1;simp at this
    lia
   simp[XH,hl]
  ·exact hn.sublist ((List.filter_sublist (p:=fun x:K×Addr×Value=>decide (x.1≠k)) (l:=xs)).map _)
theorem Dq(knd:HeapKind prog w K)(d a:Addr) :
  MeetsIn prog w (Builtin.«dict.pop» ⟨[.ref d,.ref a],[]⟩) (fun A R s=>knd.room A.in1∧∃ k xs p,knd.is s.heap k a∧s.heap.DictOfH knd d xs∧xs.length≤sizeLine∧atKey xs k=some p ∧
   ∀h',h'.DictOfH knd d (rJ xs k)->WS d s.heap h'->R (.ok (.ret p.2)) { s with heap:=h',toks:=s.toks+knd.draws k }):=
 .of_wp fun A R s ⟨hu,k,xs,p,hkey,hm,hsz,hp,h⟩=>by
  obtain⟨o,es,ep,ho,hc,hd,he,his,hn⟩:=id hm;unfold Builtin.«dict.pop»;refine wpAny_bind ?_;unfold Builtin.Dict.keyAndDefault;refine wpAny_bind (wpAny_notOrdered_dict hm.typeIs ?_);show wpAny _ _ (pure (d,VF a,none)) _ _ s;refine wpAny_pure ?_;have UN:es.isEmpty=false:=by
   cases hx:xs with
   |nil=>rw[hx]at hp;exact nomatch hp
   |cons x r=>
    have:=size_of_entries he;rw[hx]at this;cases hq:es.isEmpty with
    |false=>rfl
    |true=>rw[Array.isEmpty_iff.mp hq]at this;exact nomatch this
  simp only[show (keyPart (.ref a)).isSome=false from rfl,V3,if_false];refine wpAny_bind (wpAny_dictEntries ho hd (wpAny_bind (wpAny_pure ?_)));simp only[UN,V3,if_false];refine wpAny_bind (Ax hu hkey hm hp hsz fun h' hm' hs'=>?_);simp only[Option.isNone_some,V3,if_false];exact wpAny_bind (wpAny_letGo (wpAny_pure ⟨p.2,rfl,h h' hm' hs'⟩))
end
section
variable{prog:Program}{w:World}{K:Type}[DecidableEq K]{kd:KeyKind prog w K}{A:Around}{E:Value->Shared->Prop}{s:Shared}{d a:Addr}{k:K}{xs:List (List K×Addr×Value)}
theorem IL{es:List DictEntry}(hn:(es.map (·.hash)).Nodup){e:DictEntry}(he:e∈es):(es.filter (·.hash == e.hash)).length<=1:=by
 have h1:(es.filter (·.hash == e.hash)).length=((es.map (·.hash)).filter (· == e.hash)).length:=by rw[List.filter_map,Pa];rfl
 have h2:((es.map (·.hash)).filter (· == e.hash)).length=(es.map (·.hash)).count e.hash:=by rw[List.count_eq_length_filter]
 rw[h1,h2];exact List.nodup_iff_count.mp hn _
theorem Ay{id:String}{o:Obj}{es ep}{Q:Array DictEntry->Shared->Prop}(ho:s.heap.get? d=some o)(hd:o.data=.dict es ep)(he:es.toList=xs.map (entryOfKey (tupleKind kd)))(his:∀x∈xs,(tupleKind kd).is s.heap x.1 x.2.1)(hh:(xs.map fun x=>(tupleKind kd).hash x.1).Nodup)(h:Q es s) :
  wpAny (model prog w) A (Builtin.Dict.entriesForEmpty id d) Q E s:=by
 unfold Builtin.Dict.entriesForEmpty;refine wpAny_bind (wpAny_dictEntries ho hd ?_);refine wpAny_bind ?_;rw[<- Array.forIn_toList];have hn:(es.toList.map (·.hash)).Nodup:=by rw[he,V0];exact hh
 refine wpAny_forIn_list _ (fun Nl _ s'=>s'=s/\∀e∈Nl,e∈es.toList) _ ?_ ?_ _ _ ⟨rfl,fun _ h=>h⟩
 ·rintro e Nl b s' ⟨rfl,hall⟩;have hm:=hall e (PU ..);have hm':=hm;rw[he]at hm';obtain⟨x,hx,rfl⟩:=VE.mp hm';have hT:=(show IsTupleKey kd s'.heap x.1 x.2.1 from his x hx).typeIs;show wpAny _ _ (Builtin.Dict.quietEq (.ref x.2.1) >>= _) _ _ s';refine wpAny_bind ?_;unfold Builtin.Dict.quietEq;refine wpAny_bind (wpAny_specialOf hT F.slot_tuple_eq.lookup (wpAny_pure ?_));have hc:¬(es.filter (·.hash == (entryOfKey (tupleKind kd) x).hash)).size>1:=by
   have:=IL hn hm;rw[<- Array.toList_filter,Vu]at this
   lia
  split
  ·first | rw[if_neg hc] | skip
   exact wpAny_pure ⟨rfl,fun e he'=>hall e (Ds _ he')⟩
  ·exact wpAny_pure ⟨rfl,fun e he'=>hall e (Ds _ he')⟩
 ·rintro b s' ⟨rfl,_⟩;exact wpAny_pure h
theorem Dt{o:Addr}{Q:Value->Shared->Prop}(hoS:(o == sysModules)=false)(ho:s.heap.DictOfH (tupleKind kd) o xs)(hsz:xs.length<=sizeLine)(hh:(xs.map fun x=>(tupleKind kd).hash x.1).Nodup)
  (h:∀h',h'.DictOfH (tupleKind kd) s.heap.objs.size xs->WS s.heap.objs.size (s.heap.push { cls:=.type "dict",data:=.dict #[] }) h'->Q (.ref s.heap.objs.size) { s with heap:=h' }) :
  wpAny (model prog w) A (call (.type "dict") [.ref o]) Q E s:=by
 refine callType_codes (Q₁:=fun obj s₁=>obj=.ref s.heap.objs.size/\s₁={ s with heap:=s.heap.push { cls:=.type "dict",data:=.dict #[] } }) F.kt_called_dict (F.kt_typeCall_dict_1 _) F.entry_dict_init (kt_code_dict_new _ ⟨rfl,rfl⟩) ?_;rintro obj s₁ ⟨rfl,rfl⟩;have hnew:(s.heap.push { cls:=.type "dict",data:=.dict #[] }).DictOfH (tupleKind kd) s.heap.objs.size []:=Heap.DictOfH.new s.heap;have hdo:s.heap.objs.size≠o:=by obtain⟨_,_,_,hg,_⟩:=ho;exact fun e=>absurd (Vl hg) (by rw[e];exact W6 _)
 obtain⟨oo,es,ep,ho1,hc,hd,he,his,hn⟩:=id ho;have kp:∀{k:List K} {b:Addr},(tupleKind kd).is s.heap k b->(tupleKind kd).is (s.heap.push { cls:=.type "dict",data:=.dict #[] }) k b:=fun {k b} ⟨o,it,n,q1,q2⟩=>⟨o,it,n,Vp _ q1,q2⟩;have ho':(s.heap.push { cls:=.type "dict",data:=.dict #[] }).DictOfH (tupleKind kd) o xs:=⟨oo,es,ep,Vp _ ho1,hc,hd,he,fun x hx=>kp (his x hx),hn⟩
 have hg:(s.heap.push { cls:=.type "dict",data:=.dict #[] }).get? s.heap.objs.size=some { cls:=.type "dict",data:=.dict #[] }:=VY _ rfl;refine⟨hnew.typeIs,F.args_dict_init_2 _ _,?_⟩;unfold Builtin.«dict.__init__»;refine wpAny_bind ?_;unfold Builtin.Dict.selfAndRest;refine wpAny_bind (wpAny_notOrdered_dict hnew.typeIs ?_);show wpAny _ _ (pure (s.heap.objs.size,[VF o])) _ _ _;refine wpAny_pure ?_;show wpAny _ _ (Builtin.Dict.updateFrom "dict.__init__" s.heap.objs.size (.ref o) [] .none) _ _ _;unfold Builtin.Dict.updateFrom;refine wpAny_bind (wpAny_typeOf ho'.typeIs ?_);rw[if_neg (by decide)];refine wpAny_bind ?_;unfold Builtin.Dict.merge;refine wpAny_bind ?_;unfold Builtin.Dict.readDirectly;refine wpAny_bind (wpAny_isInstance ho'.typeIs isSubtype_dict_dict ?_);simp only[Bool.not_true,V3,if_false];refine wpAny_bind (wpAny_specialOf ho'.typeIs YC.lookup (wpAny_pure ?_));simp only[beq_self_eq_true,if_true];refine wpAny_bind (wpAny_pure ?_);unfold Builtin.Dict.mergeDict;rw[if_neg (by simpa using hdo)];unfold XY;rw[if_neg (by rw[hoS];exact VL)];refine wpAny_bind (wpAny_pure ?_);refine wpAny_bind (wpAny_dictEntries (Vp _ ho1) hd ?_);dsimp only;cases hx:xs with
 |nil=>subst hx;have h0:es=#[]:=Array.toList_eq_nil_iff.mp he;subst h0;rw[if_neg (by simp)];refine wpAny_bind (wpAny_dictEpoch (Vp _ ho1) hd ?_);refine wpAny_bind (wpAny_dictEntries (Vp _ ho1) hd ?_);rw[Std.Legacy.Range.forIn_eq_forIn_range'];refine wpAny_bind (wpAny_pure (wpAny_pure ?_));show wpAny _ _ (Builtin.Dict.addKeywords s.heap.objs.size [] >>= _) _ _ _;exact wpAny_bind (wpAny_pure (wpAny_pure ⟨rfl,h _ hnew (WS.refl _ _)⟩))
 |cons x r=>
  have hf:¬(decide (es.size<=8)&&es.all fun e=>(keyPart e.key).isSome)=true:=fun z=>by have z2:=(Bool.and_eq_true_iff.mp z).2;rw[Array.all_eq_true_iff_forall_mem]at z2;have hm:entryOfKey (tupleKind kd) x∈es:=Array.mem_toList_iff.mp (by rw[he,hx];exact PU ..);exact nomatch z2 _ hm
  rw[if_pos (by rw[Yt];exact Ys.mpr hf)];refine wpAny_bind (wpAny_dictEntries hg rfl ?_);rw[if_pos (by rfl)];refine wpAny_bind (Ay (Vp _ ho1) hd he (fun x hx=>kp (his x hx)) hh ?_);have UN:(!es.isEmpty)=true:=by
   cases hq:es.isEmpty with
   |false=>rfl
   |true=>rw[Array.isEmpty_iff.mp hq,hx]at he;exact nomatch he
  rw[if_pos UN];refine wpAny_bind (wpAny_updateDictKeysTo hg rfl (wpAny_pure ?_) (by rw[size_of_entries he];exact Yq hsz));show wpAny _ _ (Builtin.Dict.addKeywords s.heap.objs.size [] >>= _) _ _ _;refine wpAny_bind (wpAny_pure (wpAny_pure ⟨rfl,h _ ⟨_,_,1,WQ _ hg rfl,?_,rfl,he,fun y hy=>(tupleKind kd).keeps (kp (his y hy)) hg rfl (WN ..),hn⟩ (WN ..)⟩));exact⟨rfl,rfl,rfl⟩
end
end Pz
namespace Dm
noncomputable def tS(a b:FE):FE:=fun ρ=>match a ρ with
 |none=>none
 |some (x,ρ1)=>match pk ρ1 x with
  | some (.dcp _ _)=>(match b ρ1 with
   |none=>none
   |some (y,ρ2)=>match pk ρ2 x with
    | some (.dcp ks vs)=>(match pk ρ2 y with
     |some (.tup [.int i,.int j])=>some (.val ((jD ks vs (i,j)).getD .non),ρ2)
     |_=>none)
    |_=>none)
  |_=>none
noncomputable def jk:List (Int×Int)->List Dat->Int×Int->List (Int×Int)
 |k::ks,_::vs,p=>if k=p then jk ks vs p else k::jk ks vs p
 |_,_,_=>[]
noncomputable def jE:List (Int×Int)->List Dat->Int×Int->List Dat
 |k::ks,v::vs,p=>if k=p then jE ks vs p else v::jE ks vs p
 |_,_,_=>[]
noncomputable def pG(i:Nat)(e:FE):FE:=fun ρ=>match ρ[i]? with
 | some (.ow (.dcp _ _))=>(match e ρ with
  | some (.val (.tup [.int p,.int q]),ρ1)=>(match ρ1[i]? with
   | some (.ow (.dcp ks vs))=>(match jD ks vs (p,q) with
    |some d=>some (.val d,ρ1.set i (.ow (.dcp (jk ks vs (p,q)) (jE ks vs (p,q)))))
    |none=>none)
   |_=>none)
  |_=>none)
 |_=>none
noncomputable def mD(ks:List (Int×Int)):Bool:=ks.all fun p=>decide (0<=p.1/\p.1<20/\0<=p.2/\p.2<20)
noncomputable def tT:List Dat->Option RV
 |[.dcp ks vs]=>if mD ks then some (.new (.dcp ks vs)) else none
 |_=>none
noncomputable def tkp(ρ:Env):Val->Option (Dat×Env)
 |.val d=>some (d,ρ)
 |.new d=>some (d,ρ)
 |.slot i=>match ρ[i]? with
  |some (.ow (.dcp ks vs))=>some (.dcp ks vs,ρ)
  |some (.ow d)=>some (d,ρ.set i (.sh d))
  |some (.sh d)=>some (d,ρ)
  |_=>none
noncomputable def Du(ρ:Env):List Val->Option (List Dat×Env)
 |[]=>some ([],ρ)
 |x::r=>match tkp ρ x with
  |none=>none
  |some (d,ρ1)=>match Du ρ1 r with
   |none=>none
   |some (ds,ρ2)=>some (d::ds,ρ2)
noncomputable def tU(f:List Dat->Option RV)(as:List FE):FE:=fun ρ=>match eAs as ρ with
 |none=>none
 |some (xs,ρ1)=>match Du ρ1 xs with
  |none=>none
  |some (ds,ρ2)=>match f ds with
   |none=>none
   |some v=>if bu v.dat then some (v.cu,ρ2) else none
end Dm
namespace Br
open PySem PySem.Spec PyProof.Rows L2
noncomputable def rK:List (List Key×V)->List Addr->List Key->List Addr
 |kv::kvs,t::ts,k=>if kv.1=k then rK kvs ts k else t::rK kvs ts k
 |_,_,_=>[]
theorem KT.drop{H:Hp}{kvs:List (List Key×V)}{xs:List (List Key×Addr×Value)}(r:KT H kvs xs)(k:List Key):KT H (rj kvs k) (Pz.rJ xs k)/\(Pz.rJ xs k).map (·.2.1)=rK kvs (xs.map (·.2.1)) k:=by
 induction r with
 |nil=>exact⟨.nil,rfl⟩
 |@cons p q ps qs h t ih=>
  obtain⟨i1,i2⟩:=ih;unfold rj Pz.rJ at i1 ⊢;unfold Pz.rJ at i2;rw[gV];unfold rK;by_cases e:p.1=k
  ·have e':q.1=k:=h.1.symm.trans e;rw[Wn (by simp[e]),Wn (by simp[e']),if_pos e];exact⟨i1,i2⟩
  ·have e':¬q.1=k:=fun z=>e (h.1.trans z);rw[Wo (by simp[e]),Wo (by simp[e']),if_neg e,gV,i2];exact⟨.cons h i1,rfl⟩
theorem BX{H0 H1:Hp}(p:Int×Int):∀{kvs:List (List Key×V)} {ts:List Addr} {ks:List (Int×Int)} {ds:List Dat},kvs.map (·.1)=ks.map kP->ee H1 ts ks->aN H0 (kvs.map (·.2)) ds ->
  (rj kvs (kP p)).map (·.1)=(Dm.jk ks ds p).map kP/\ee H1 (rK kvs ts (kP p)) (Dm.jk ks ds p)/\aN H0 ((rj kvs (kP p)).map (·.2)) (Dm.jE ks ds p)
 |[],[],[],ds,_,_,r=>by cases r;exact⟨rfl,trivial,.nil⟩
 |[],_::_,[],ds,_,h,r=>h.elim
 |[],_,_::_,_,e,_,_=>by cases e
 |_::_,_,[],_,e,_,_=>by cases e
 |_::_,[],_::_,_,_,h,_=>h.elim
 |(k,v)::kvs,t::ts,k'::ks,ds,e,h,r=>by
  rw[gV,gV]at e;injection e with e1 e2
  cases r with
  |cons h0 r=>
   obtain⟨i1,i2,i3⟩:=BX p e2 h.2 r;unfold rj at i1 i3 ⊢;dsimp only at e1;subst e1;unfold rK Dm.jk Dm.jE;by_cases q:k'=p
   ·subst q;rw[Wn (by simp),if_pos rfl,if_pos rfl,if_pos rfl];exact⟨i1,i2,i3⟩
   ·have q':¬kP k'=kP p:=fun z=>q (Au z);rw[Wo (by simpa using q'),if_neg q,if_neg q,if_neg q'];exact⟨by rw[gV,gV,i1],⟨h.1,i2⟩,by rw[gV];exact .cons h0 i3⟩
section
variable{X:Cx}{Dz:List (Addr×Obj)}{σ:L2.St}{H:Hp}{s:Shared}{a b:Addr}{kvs:List (List Key×V)}{ts:List Addr}{k:List Key}{A:Around}{E:Value->Shared->Prop}
theorem P7{v:V}{Q:Value->Shared->Prop}(hu:A.units+1<cLine)(I:Inv X Dz σ H s)(e:H a=some (.dT kvs ts))(eb:H b=some (.tup (k.map kV)))(l:lR kvs k=some v)
  (h:∀w' s',Inv X Dz σ (upd H a (.dT (rj kvs k) (rK kvs ts k))) s'->RelV v w'->Q w' s'):wpAny (model X.prog X.w) A (call (.builtin "dict.pop") [.ref a,.ref b]) Q E s:=by
 obtain⟨z,hd,xs,rel,dd⟩:=G4 I.hok e;obtain⟨w',hw,rw'⟩:=qU.some_of (v:=v) (o:=(atKey xs k).map (·.2)) (by rw[<- l];exact rel.val k);obtain⟨p,hp,rfl⟩:=Option.map_eq_some_iff.mp hw;have hz:xs.length<=sizeLine:=by rw[<- Paired.length rel];exact z
 have hts:xs.map (·.2.1)=ts:=by
  obtain⟨_,_,xs2,_,o2,es2,ep2,g1,g2,g3,g4,g5,g6⟩:=(show bC X.prog X.w H s.heap a (.dT kvs ts) from I.hok a _ e)
  exact CY dd g1 g3 g4 g6
 refine call_meetsIn PySem.F.slot_dict_pop dd.typeIs PySem.F.entry_dict_pop (PySem.F.args_dict_pop_2 _ _) (Pz.Dq (tupleKind (aV X.prog X.w)) a b)
  ⟨tupleKind_room_in1 hu,k,xs,p,o8 I.hok eb,dd,hz,hp,fun h' dd' hs=>h _ _ ?_ rw'⟩
 obtain⟨q,es,ep,hq,h2,h3,h4,_,h5⟩:=dd';obtain⟨d1,d2⟩:=KT.drop rel k;refine v9 I (by rw[e];exact WU) hs ⟨q,hq⟩ ⟨Nat.le_trans (G1 kvs k) z,hd,_,d1.keeps fun c ys ec=>?_,q,es,ep,hq,h2,h3,h4,h5,?_⟩
 ·rw[aH (MF ec e (fun z=>nomatch z))];exact ec
 ·rw[d2,hts]
theorem LF{Q:Value->Shared->Prop}(I:Inv X Dz σ H s)(e:H a=some (.dT kvs ts))(hh:(kvs.map fun kv=>(tupleKind (aV X.prog X.w)).hash kv.1).Nodup)(h:∀p s',H p=none->Inv X Dz σ (upd H p (.dT kvs ts)) s'->Q (.ref p) s'):wpAny (model X.prog X.w) A (call (.type "dict") [.ref a]) Q E s:=by
 obtain⟨z,hd,xs,rel,dd⟩:=G4 I.hok e;have hts:xs.map (·.2.1)=ts:=by
  obtain⟨_,_,xs2,_,o2,es2,ep2,g1,g2,g3,g4,g5,g6⟩:=(show bC X.prog X.w H s.heap a (.dT kvs ts) from I.hok a _ e)
  exact CY dd g1 g3 g4 g6
 have keys:∀{l:List (List Key×V)} {m:List (List Key×Addr×Value)},KT H l m->l.map (·.1)=m.map (·.1):=by
  intro l m q
  induction q with
  |nil=>rfl
  |cons hq _ ih=>rw[gV,gV,ih,hq.1]
 have hh':(xs.map fun x=>(tupleKind (aV X.prog X.w)).hash x.1).Nodup:=by
  have:(xs.map fun x=>(tupleKind (aV X.prog X.w)).hash x.1)=(xs.map (·.1)).map (tupleKind (aV X.prog X.w)).hash:=by rw[V0];rfl
  rw[this,<- keys rel,V0];exact hh
 refine Pz.Dt hd dd (by rw[<- Paired.length rel];exact z) hh' fun h' dd' hs=>?_;obtain⟨q,es,ep,hq,h2,h3,h4,_,h5⟩:=dd';have hf:=I.hok.fresh (Nat.le_refl s.heap.objs.size);refine h _ _ hf (I.laid (a:=s.heap.objs.size) (o:=.dT kvs ts) (t':=s.toks) (fun b q hq=>?_) (Nat.le_refl _) ⟨z,beq_eq_false_iff_ne.mpr (VS (VC I.big)),xs,rel.keeps fun c ys ec=>?_,q,es,ep,hq,h2,h3,h4,h5,hts⟩)
 ·exact(hs.2 b (VC (Vl hq))).trans (Vp _ hq)
 ·rw[aH (fun z=>by rw[z,hf]at ec;cases ec)];exact ec
end
section
variable{P:Program}{kvs:List (List Key×V)}{w:World}{ks:List (Int×Int)}{X:Cx}
noncomputable def hp(i j:Nat):Int:=reduceHash (XA [hashInt (i:Int),hashInt (j:Int)])
theorem P8:((VO 400).map fun n=>hp (n / 20) (n % 20)).Nodup:=by decide +kernel
theorem Gd{i j i' j':Nat}(h1:i<20)(h2:j<20)(h3:i'<20)(h4:j'<20)(e:hp i j=hp i' j'):i=i'/\j=j':=by
 have a1:∀{i j:Nat},i<20->j<20->((VO 400).map fun n=>hp (n / 20) (n % 20))[20*i+j]?=some (hp i j):=fun {i j} h1 h2=>by rw[VH,Xi (by lia)];show some (hp ((20*i+j) / 20) ((20*i+j) % 20))=some _;rw[show (20*i+j) / 20=i by lia,show (20*i+j) % 20=j by lia]
 have:=(List.getElem?_inj (by rw[Pa,Wl];lia) P8).mp ((a1 h1 h2).trans ((congrArg some e).trans (a1 h3 h4).symm))
 lia
theorem IP{K:Type}[DecidableEq K](kd:KeyKind P w K)(ks:List K):(tupleKind kd).hash ks=reduceHash (XA (ks.map kd.hash)):=rfl
theorem BY(i:Int):(aV P w).hash (.inl i)=hashInt i:=rfl
theorem ET(p:Int×Int):(tupleKind (aV P w)).hash (kP p)=reduceHash (XA [hashInt p.1,hashInt p.2]):=by rw[IP];unfold kP;rw[gV,gV,XG,BY,BY]
theorem IQ{f:List Key->Int}(hf:∀p q:Int×Int,(0<=p.1/\p.1<20/\0<=p.2/\p.2<20)->(0<=q.1/\q.1<20/\0<=q.2/\q.2<20)->f (kP p)=f (kP q)->p=q)(e:kvs.map (·.1)=ks.map kP)(hs:Dm.mD ks=true)(hn:(kvs.map (·.1)).Nodup):(kvs.map fun kv=>f kv.1).Nodup:=by
 have h1:(kvs.map fun kv=>f kv.1)=ks.map fun p=>f (kP p):=by have:=congrArg (List.map f) e;rw[V0,V0]at this;exact this
 rw[h1];have hk:ks.Nodup:=by rw[e]at hn;exact(WY.mp hn).imp fun {a b} h q=>h (by rw[q])
 refine WY.mpr (WX ?_ hk);intro a b ha hb ne q;exact ne (hf a b (of_decide_eq_true (Wv.mp hs a ha)) (of_decide_eq_true (Wv.mp hs b hb)) q)
theorem BZ(p q:Int×Int)(h1:0<=p.1/\p.1<20/\0<=p.2/\p.2<20)(h2:0<=q.1/\q.1<20/\0<=q.2/\q.2<20)(e:(tupleKind (aV P w)).hash (kP p)=(tupleKind (aV P w)).hash (kP q)):p=q:=by
 rw[ET,ET]at e;obtain⟨p1,p2⟩:=p;obtain⟨q1,q2⟩:=q;obtain⟨i,rfl⟩:∃i:Nat,p1=(i:Int):=⟨p1.toNat,by lia⟩
 obtain⟨j,rfl⟩:∃i:Nat,p2=(i:Int):=⟨p2.toNat,by lia⟩
 obtain⟨i',rfl⟩:∃i:Nat,q1=(i:Int):=⟨q1.toNat,by lia⟩
 obtain⟨j',rfl⟩:∃i:Nat,q2=(i:Int):=⟨q2.toNat,by lia⟩
 dsimp only at h1 h2 e;have e2:hp i j=hp i' j':=by unfold hp;exact e
 obtain⟨rfl,rfl⟩:=Gd (by lia) (by lia) (by lia) (by lia) e2;rfl
theorem B0(e:kvs.map (·.1)=ks.map kP)(hs:Dm.mD ks=true)(hn:(kvs.map (·.1)).Nodup):(kvs.map fun kv=>(tupleKind (aV P w)).hash kv.1).Nodup:=IQ BZ e hs hn
theorem Dv:fy X (.type "dict") (fun xs H Q=>∃a kvs ts ks,xs=[.ref a]/\H a=some (.dT kvs ts)/\kvs.map (·.1)=ks.map kP/\Dm.mD ks=true/\∀p,H p=none->Q (.ref p) (upd H p (.dT kvs ts))):=by
 intro Dz s σ H xs us Q I r h;obtain⟨a,kvs,ts,ks,rfl,ha,ek,hs,k⟩:=h;obtain⟨u,rfl,rx⟩:=vals1 r;cases rx;have hn:(kvs.map (·.1)).Nodup:=by
  obtain⟨_,_,xs2,rel,o2,es2,ep2,g1,g2,g3,g4,g5,g6⟩:=(show bC X.prog X.w H s.heap a (.dT kvs ts) from I.hok a _ ha)
  have keys:∀{l:List (List Key×V)} {m:List (List Key×Addr×Value)},KT H l m->l.map (·.1)=m.map (·.1):=by
   intro l m q
   induction q with
   |nil=>rfl
   |cons hq _ ih=>rw[gV,gV,ih,hq.1]
  rw[keys rel];exact g5
 exact LF I ha (B0 ek hs hn) fun p s' hp I'=>⟨.ref p,_,I',rfl,k p hp⟩
theorem IS:CallD (fun xs H Q=>∃a kvs ts ks,xs=[.ref a]/\H a=some (.dT kvs ts)/\kvs.map (·.1)=ks.map kP/\Dm.mD ks=true/\∀p,H p=none->Q (.ref p) (upd H p (.dT kvs ts))) Dm.tT:=by
 intro H0 H vs ds z Q s rs e k;unfold Dm.tT at e;split at e
 ·rename_i ks vs';split at e
  case isFalse=>cases e
  rename_i hs;cases e;cases rs with
  |cons r rr=>cases rr;obtain⟨a,x,rfl,ha,ek,rs⟩:=ko s r;exact⟨a,x.1,x.2,ks,rfl,ha,ek.1,hs,fun p hp=>k _ _ _ (aW.wX s hp) ⟨p,rfl,hp,s.free hp,x,aL,ek,rs⟩⟩
 ·cases e
def IT(td ty:TE):TE:=fun σ H Q=>td σ H fun x H1=>∃a,x=.ref a/\IsD H1 a/\ty σ H1 fun y H2=>∃kvs ts k b v,H2 a=some (.dT kvs ts)/\y=.ref b/\H2 b=some (.tup (k.map kV))/\lR kvs k=some v/\Q v (upd H2 a (.dT (rj kvs k) (rK kvs ts k)))
theorem IU{o e:Expr}{SM cpos:Pos}{td ty:TE}(hu:X.A.units+1<cLine)(ho:PE X o td)(he:PE X e ty)(m:M1 X o "pop" SM e cpos):PE X (.Call (.Attribute o "pop" SM) [e] [] cpos) (IT td ty):=by intro Dz s σ H Q I h;refine wpAny_Call_method m.base m.few m.line PySem.F.plainAttrs_dict PySem.F.slot_dict_pop PySem.F.type_dict_pop (thn (ho Dz s σ H _ I h) fun u s1 ⟨x,H1,I1,rx,a,ex,d,q1⟩=>?_);subst ex;obtain rfl:u=VF a:=rx;obtain⟨t1,t2,_⟩:=Hi I1 d;refine⟨t1,t2,?_⟩;rw[m.trees];refine XQ rfl (XZ (Yb (thn (he Dz s1 σ H1 _ I1 q1) fun iv s2 ⟨y,H2,I2,ry,kvs,ts,k,b,v,ea,ey,eb,l,q2⟩=>XM ?_)));subst ey;cases (show iv=VF b from ry);exact P7 hu I2 ea eb l fun w' s3 I3 rw'=>⟨v,_,I3,rw',q2⟩
end
section
variable{σ:L2.St}{H:Hp}{Q:VK}
theorem LG{i:Nat}{f:FE}(h:tD (Dm.pG i f) σ H Q):IT (yE i) (tD f) σ H Q:=by
 obtain⟨H0,ρ,x,ρ',st,e,k⟩:=h;unfold Dm.pG at e;split at e
 case h_2=>cases e
 rename_i ks0 vs0 h0;split at e
 case h_2=>cases e
 rename_i m n ρ1 e1;split at e
 case h_2=>cases e
 rename_i ks vs h1;split at e
 case h_2=>cases e
 rename_i d hl;cases e;obtain⟨a0,q0,n0,y0,yy0,_⟩:=st.ow i _ h0;refine⟨_,q0,a0,rfl,.inr ⟨y0.1,y0.2,.inl yy0⟩,H0,ρ,_,ρ1,st,e1,fun u H1 Hb t1 r1=>?_⟩;obtain⟨b,rfl,hb⟩:=kr t1.st.same (.inl r1);obtain⟨a,q,n',w⟩:=t1.st.ow i _ h1;rw[q0]at q;cases q;obtain⟨y,yy,ek,rs⟩:=w;rcases mC (m,n) ek.1 rs with⟨d',v,l1,l2,r⟩ | ⟨l1,_⟩
 ·rw[hl]at l1;cases l1;obtain⟨p1,p2,p3⟩:=BX (m,n) ek.1 ek.2 rs;have ow:aE σ ρ1 a0:=⟨i,_,h1,q0⟩
  exact⟨y.1,y.2,kP (m,n),b,v,yy,rfl,t1.st.same _ _ hb,l2,k v H1 _ ⟨t1.st.write h1 q0 ⟨(rj y.1 (kP (m,n)),rK y.1 y.2 (kP (m,n))),aL,⟨p1,p2⟩,p3⟩,t1.stp.trans (Stp.write ow) fun b z=>.inl (t1.own b z),fun b z=>t1.own b (cZ h1 z),fun j z=>trivial⟩ r⟩
 ·rw[hl]at l1;cases l1
theorem LH{fo fi:FE}(h:tD (Dm.tS fo fi) σ H Q):Hj (tD fo) (tD fi) σ H Q:=by
 obtain⟨H0,ρ,x,ρ',st,e,k⟩:=h;unfold Dm.tS at e;split at e
 ·cases e
 rename_i x1 ρ1 e1;split at e
 case h_2=>cases e
 rename_i ks0 vs0 p0;split at e
 ·cases e
 rename_i y1 ρ2 e2;split at e
 case h_2=>cases e
 rename_i ks vs p1;split at e
 case h_2=>cases e
 rename_i i j p2;cases e;refine⟨H0,ρ,x1,ρ1,st,e1,fun v H1 Hb t1 r1=>?_⟩;obtain⟨a,x0,rfl,qa0,_,_⟩:=ko t1.st.same (r1.look t1.st p0);refine⟨a,rfl,.inr ⟨x0.1,x0.2,.inl qa0⟩,H1,ρ1,y1,_,t1.st,e2,fun u H2 Hc t2 r2=>?_⟩;obtain⟨b,rfl,hb⟩:=kr t2.st.same (r2.look t2.st p2);obtain⟨a',x1,ea,qa,ek,rs⟩:=ko t2.st.same ((r1.mono t2).look t2.st p1);cases ea;refine⟨_,jh.t (k:=kP (i,j)) qa (t2.st.same _ _ hb),k _ H2 Hc (t1.trans t2) ?_⟩;rcases mC (i,j) ek.1 rs with⟨d,w,l1,l2,r⟩ | ⟨l1,l2⟩
 ·rw[l1,l2];exact r
 ·rw[l1,l2];exact Rep.non
end
section
variable{X:Cx}{a b e:Expr}{fs:List FE}{fa fb:FE}{p pos:Pos}{k:Nat}
theorem LJ(hg:Gl X "dict")(hm:X.mg "dict" = none)(ha:DA X [e] fs)(he:starEach [e] X.env=[(false,eval e X.env)]:=by rfl)(Nm:(backTo pos (starEach [] X.env)).any (·.1)=false:=by rfl):DE X (.Call (.Name "dict" p) [e] [] pos) (Dm.eB Dm.tT fs):=HJ Dv IS (by rfl) hg hm ha (he:=he) (Nm:=Nm)
theorem EU(i:Nat){x:Str}{px SM cpos:Pos}(hr:bP k X.A)(hb:DE X b fb)(hi:X.N[i]?=some x:=by rfl)(hv:Vis X.env.scope x:=by trivial)(hd:(x == ("__debug__" : Str))=false:=by decide)
  (SK:(x == ("__classdict__" : Str))=false:=by decide) (m:M1 X (.Name x px) "pop" SM b cpos:=by exact⟨rfl,rfl,rfl,rfl⟩):DE X (.Call (.Attribute (.Name x px) "pop" SM) [b] [] cpos) (Dm.pG i fb):=PE.weak (IU (u1 hr) (kG hi hv hd SK) hb m) fun _ _ _=>LG
theorem LK{SM cpos:Pos}(hr:bP k X.A)(ha:DE X a fa)(hb:DE X b fb)(m:M1 X a "get" SM b cpos:=by exact⟨rfl,rfl,rfl,rfl⟩):DE X (.Call (.Attribute a "get" SM) [b] [] cpos) (Dm.tS fa fb):=PE.weak (Hl (u1 hr) ha hb m) fun _ _ _=>LH
end
section
variable{ks:List (Int×Int)}{vs:List Dat}{ρ ρ':Dm.Env}{x:Dm.Val}{d:Dat}{H H':Hp}{i:Nat}
theorem P9(e:Dm.tkp ρ x=some (d,ρ')):Dm.tk ρ x=some (d,ρ')\/∃i ks vs,x=.slot i/\ρ[i]?=some (.ow (.dcp ks vs))/\d=.dcp ks vs/\ρ'=ρ:=by
 cases x with
 |val d'=>exact .inl e
 |new d'=>exact .inl e
 |slot i=>
  unfold Dm.tkp at e;dsimp only at e;split at e
  ·rename_i ks vs h;cases e;exact .inr ⟨i,ks,vs,rfl,h,rfl,rfl⟩
  ·rename_i d' _ h;left;unfold Dm.tk;dsimp only;rw[h];exact e
  ·rename_i d' h;left;unfold Dm.tk;dsimp only;rw[h];exact e
  ·cases e
theorem IV(e:Dm.tkp ρ x=some (d,ρ'))(h:ρ[i]?=some (.ow (.dcp ks vs))):ρ'[i]?=some (.ow (.dcp ks vs)):=by
 cases x with
 |val d'=>cases e;exact h
 |new d'=>cases e;exact h
 |slot j=>
  unfold Dm.tkp at e;dsimp only at e;split at e
  ·cases e;exact h
  ·rename_i d' hn hj;cases e;by_cases q:j=i
   ·subst q;rw[h]at hj;cases hj;exact absurd rfl (hn ks vs)
   ·rw[gc q];exact h
  ·cases e;exact h
  ·cases e
theorem zD:∀{xs:List Dm.Val} {ρ ρ':Dm.Env} {ds:List Dat},Dm.Du ρ xs=some (ds,ρ')->ρ[i]?=some (.ow (.dcp ks vs))->ρ'[i]?=some (.ow (.dcp ks vs))
 |[],_,_,_,e,h=>by cases e;exact h
 |x::xs,ρ,ρ',ds,e,h=>by
  unfold Dm.Du at e;split at e
  ·cases e
  rename_i d ρ1 e1;split at e
  ·cases e
  rename_i ds' ρ2 e2;cases e;exact zD e2 (IV e1 h)
def SI(H0:Hp)(σ:L2.St)(ρ:Dm.Env)(v:V)(d:Dat):Prop:=Rep H0 v d\/∃(i:Nat) (b:Addr) (ks:List (Int×Int)) (vs:List Dat),d=.dcp ks vs/\v=.ref b/\ρ[i]?=some (.ow (.dcp ks vs))/\σ[i]?=some (some (.ref b))
inductive xG(H0:Hp)(σ:L2.St)(ρ:Dm.Env):List V->List Dat->Prop
 |nil:xG H0 σ ρ [] []
 |cons {v:V} {d:Dat} {vs:List V} {ds:List Dat}:SI H0 σ ρ v d->xG H0 σ ρ vs ds->xG H0 σ ρ (v::vs) (d::ds)
theorem Dw{Hs H0s H0 H:Hp}{σ:L2.St}{ρs:Dm.Env}:∀{xs:List Dm.Val} {vs:List V} {ρ ρ':Dm.Env} {ds:List Dat} {H0c:Hp},ESt σ ρs H0s Hs ρ H0c H->aJ H0 H0c->jd Hs H0 H σ ρ vs xs->Dm.Du ρ xs=some (ds,ρ') ->
  ∃pq,ESt σ ρs H0s Hs ρ' pq H/\aJ H0c pq/\xG pq σ ρ' vs ds
 |[],_,ρ,ρ',ds,H0c,t,b,r,e=>by cases r;cases e;exact⟨H0c,t,aJ.refl _,.nil⟩
 |x::xs,_,ρ,ρ',ds,H0c,t,b,r,e=>by
  cases r with
  |cons h r=>
   unfold Dm.Du at e;split at e
   ·cases e
   ·rename_i d ρ1 e1;split at e
    ·cases e
    ·rename_i ds' ρ2 e2;cases e;rcases P9 e1 with e1' | ⟨i,ks,vs,rfl,hi,rfl,rfl⟩
     ·obtain⟨H1,t1,b1,r1,o1,d1⟩:=take1 t b h e1';obtain⟨H2,t2,b2,r2⟩:=Dw t1 (b.trans b1) (r.rho o1 d1) e2;exact⟨H2,t2,b1.trans b2,.cons (.inl (r1.mono b2)) r2⟩
     ·obtain⟨H2,t2,b2,r2⟩:=Dw t b r e2;obtain⟨q,_⟩:=h;obtain⟨a,z,_⟩:=t.st.ow i _ hi;rw[q]at z;cases z;exact⟨H2,t2,b2,.cons (.inr ⟨i,a,ks,vs,rfl,rfl,zD e2 hi,q⟩) r2⟩
mutual
theorem Rep.noP(hk:∀a o,H a=some o->H' a=some o\/∃kvs ts,o=.dT kvs ts):∀{v:V} {d:Dat},Rep H v d->Dm.bu d=true->Rep H' v d
 |_,_,.non,_=>.non
 |_,_,.bl b,_=>.bl b
 |_,_,.int i,_=>.int i
 |_,_,.str x,_=>.str x
 | _,_,.tup h r,n=>.tup (by
   rcases hk _ _ h with z | ⟨_,_,z⟩
   ·exact z
   ·cases z) (aN.noP hk r (by unfold Dm.bu at n;exact n))
 | _,_,.lst h r,n=>.lst (by
   rcases h with h | ⟨o,h⟩
   ·rcases hk _ _ h with z | ⟨_,_,z⟩
    ·exact .inl z
    ·cases z
   ·rcases hk _ _ h with z | ⟨_,_,z⟩
    ·exact .inr ⟨o,z⟩
    ·cases z) (aN.noP hk r (by unfold Dm.bu at n;exact n))
 |_,_,.dct _ _ _,n=>by unfold Dm.bu at n;cases n
 |_,_,.dcp _ _ _,n=>by unfold Dm.bu at n;cases n
 |_,_,.exc _,n=>by unfold Dm.bu at n;cases n
 |_,_,.cY _ _,n=>by unfold Dm.bu at n;cases n
 |_,_,.fn a,_=>.fn a
theorem aN.noP(hk:∀a o,H a=some o->H' a=some o\/∃kvs ts,o=.dT kvs ts):∀{vs:List V} {ds:List Dat},aN H vs ds->Dm.jM ds=true->aN H' vs ds
 |_,_,.nil,_=>.nil
 |_,_,.cons h r,n=>by unfold Dm.jM at n;rw[Vv]at n;exact .cons (Rep.noP hk h n.1) (aN.noP hk r n.2)
end
end
open Classical in
theorem IW{σ:L2.St}{H:Hp}{Q:VK}{f:List Dat->Option RV}{fs:List FE}{E:XK}(h:tD (Dm.tU f fs) σ H Q):A3 (spD f) [] E (tDA fs) σ H Q:=by
 obtain⟨H0,ρ,x,ρ',st,e,k⟩:=h;unfold Dm.tU at e;split at e
 ·cases e
 rename_i xs ρ1 e1;split at e
 ·cases e
 rename_i ds ρ2 e2;split at e
 ·cases e
 rename_i z fz;split at e
 case isFalse=>cases e
 rename_i hno;injection e with e
 injection e with ea eb
 subst ea;subst eb;refine⟨H0,ρ,xs,ρ1,st,e1,fun vs H1 Hb t1 r1=>?_⟩;dsimp only;rw[VQ];obtain⟨H2,t2,b2,r2⟩:=Dw t1 (aJ.refl _) r1 e2
 let B:Addr->Prop:=fun b=>∃(i:Nat) (ks:List (Int×Int)) (vs:List Dat),ρ2[i]?=some (.ow (.dcp ks vs))/\σ[i]?=some (some (.ref b))
 have hB:∀b,B b->H2 b=none/\∃kvs ts,Hb b=some (.dT kvs ts):=fun b ⟨i,ks,vs,h1,h2⟩=>by obtain⟨a,q,n,kvs,w,_⟩:=t2.st.ow i _ h1;rw[h2]at q;cases q;exact⟨n,kvs.1,kvs.2,w⟩
 let H2':Hp:=fun b=>if B b then Hb b else H2 b
 have in':∀b,B b->H2' b=Hb b:=fun b h=>if_pos h;have out':∀b,¬B b->H2' b=H2 b:=fun b h=>if_neg h;have s2:aJ H2 H2':=fun b o e=>by
  by_cases q:B b
  ·rw[(hB b q).1]at e;cases e
  ·rw[out' b q];exact e
 have s2b:aJ H2' Hb:=fun b o e=>by
  by_cases q:B b
  ·rw[in' b q]at e;exact e
  ·rw[out' b q]at e;exact t2.st.same _ _ e
 have rr:∀{vs:List V} {ds:List Dat},xG H2 σ ρ2 vs ds->aN H2' vs ds:=fun {vs ds} r=>by
  induction r with
  |nil=>exact .nil
  |cons h _ ih=>
   refine .cons ?_ ih;rcases h with h | ⟨i,b,ks,vs',rfl,rfl,h1,h2⟩
   ·exact h.mono s2
   ·obtain⟨a,q,n,kvs,w,ek,rs⟩:=t2.st.ow i _ h1;rw[h2]at q;cases q;exact .dcp (by rw[in' _ ⟨i,ks,vs',h1,h2⟩];exact w) (ek.mono s2) (rs.mono s2)
 refine⟨H2',ds,z,s2b,rr r2,fz,fun w H3 Hd g3 r3=>?_⟩
 let H3':Hp:=fun b=>if B b then none else H3 b
 have in3:∀b,B b->H3' b=none:=fun b h=>if_pos h;have xB:∀b,¬B b->H3' b=H3 b:=fun b h=>if_neg h;have gr:aW H2 Hb H3' Hd:=⟨fun b o e=>by
   by_cases q:B b
   ·rw[(hB b q).1]at e;cases e
   ·rw[xB b q];exact g3.s0 _ _ (s2 _ _ e),g3.s1,fun b o e=>by
   by_cases q:B b
   ·rw[in3 b q]at e;cases e
   ·rw[xB b q]at e;rcases g3.s2 b o e with y | y
    ·exact .inl y
    ·rw[out' b q]at y;exact .inr y,fun b o e=>by
   by_cases q:B b
   ·rw[in3 b q]at e;cases e
   ·rw[xB b q]at e;exact g3.s3 _ _ e⟩
 have hk:∀a o,H3 a=some o->H3' a=some o\/∃kvs ts,o=.dT kvs ts:=fun a o e=>by
  by_cases q:B a
  ·obtain⟨_,kvs,ts,y⟩:=hB a q;have:=g3.s0 a _ ((in' a q).trans y);rw[e]at this;exact .inr ⟨kvs,ts,Option.some.inj this⟩
  ·exact .inl (by rw[xB a q];exact e)
 have r3':z7 Hb H3' Hd w z:=by
  cases z with
  |val d=>exact Rep.noP hk r3 hno
  |new d=>
   obtain⟨a,ea,n,n0,w'⟩:=r3;refine⟨a,ea,n,?_,?_⟩
   ·by_cases q:B a
    ·exact in3 a q
    ·rw[xB a q];exact n0
   ·cases d with
    |lst ds'=>obtain⟨ys,y1,y2⟩:=w';exact⟨ys,y1,aN.noP hk y2 (by have:Dm.bu (.lst ds')=true:=hno;unfold Dm.bu at this;exact this)⟩
    |dct ks ds'=>have:Dm.bu (.dct ks ds')=true:=hno;unfold Dm.bu at this;cases this
    |dcp ks ds'=>have:Dm.bu (.dcp ks ds')=true:=hno;unfold Dm.bu at this;cases this
    |_=>exact w'.elim
 exact k w H3' Hd (t2.trans (.grow t2.st gr)) ((r3'.toV t2.st).early fun a n=>t2.stp.gone n)
section
variable{X:Cx}{e b:Expr}{es:List Expr}{fs:List FE}{fb:FE}{p pos:Pos}
theorem mE{k:Nat}{F:Addr}{fd:FuncData}{ps:List Str}{g:List Dat->Option RV}{x:Str}(G:ck X.prog X.w X.K X.mg X.base CX0 k F fd ps (spD g))(hr:bP k X.A)(hg:Gl X x)(hm:X.mg x=some (.ref F))(hk:Wc X.K (.ref F)=true)(hb:Binds X.K fd ps [])
  (ha:DA X (e::es) fs) (SS:(x == ("__debug__" : Str))=false:=by decide) (he:starEach (e::es) X.env=(false,eval e X.env)::starEach es X.env:=by rfl) (Nm:(backTo pos (starEach es X.env)).any (·.1)=false:=by rfl) :
  DE X (.Call (.Name x p) (e::es) [] pos) (Dm.tU g fs):=PE.weak (v8 G hr hg hm hk hb .nil (En (X:=X)) ha SS he Nm) fun _ _ _=>IW
end
theorem LL{σ:L2.St}{H:Hp}{D:Ends}{j own:Nat}{fi:Dm.FI}{bd:Dm.FB}{g:TG}{is:List Nat}{SR:Dm.FN}{gs:FS}{T:TS}(hT:∀D σ H,tDN j SR { D with nx:=tDS gs D } σ H->T D σ H)(hb:BD is g bd)(hl:∀i∈is,σ.length<=i)(hj:j<σ.length)(h:tDS (Dm.aR (Dm.lN j fi own bd SR) gs) D σ H) :
  CL (AY (tLC (tDI fi) own g Hy (GU CQ)) (lJ j)) T D σ H:=by
 obtain⟨H0,ρ,o,st,e,k⟩:=h;obtain⟨ρ9,e9,e⟩:=ER (fun z q=>by obtain⟨_,_,_,_,_,_,_,_,_,_,z⟩:=oE q;exact⟨_,z⟩) e;obtain⟨ds,ρ1,ρ2,ρ3,r3,hj0,e1,hsz,e2,e3,z9⟩:=oE e9;cases z9;refine⟨H0,ρ,ds,ρ1,st,e1,fun J H00 Hb t1 jw L hL=>BJ (Q:=fun x H1=>lJ j x σ H1 (T D)) hb hl t1.st jw hsz e2 L hL fun H0' H' ps st' sp' ho' hDl n0 nd hps hro=>?_⟩;have nL:¬aE σ ρ1 L:=t1.st.cL hL;have om:∀a,aE (σ.set j (some (.ref L))) ((ρ2.take ρ1.length).set j .un) a->aE σ (ρ2.take ρ1.length) a:=fun a ⟨i,d,h1,h2⟩=>by
  rcases bf h1 with⟨_,z⟩ | ⟨hij,h1⟩
  ·cases z
  ·rw[gc (VS hij)]at h2;exact⟨i,d,h1,h2⟩
 have st2:aM H0' H' (σ.set j (some (.ref L))) ((ρ2.take ρ1.length).set j .un):={
  same:=st'.same
  len:=by rw[VT,VT];exact st'.len
  sh:=fun i d h=>by
   rcases bf h with⟨_,z⟩ | ⟨hij,h⟩
   ·cases z
   ·obtain⟨v,q,r⟩:=st'.sh i d h;exact⟨v,by rw[gc (VS hij)];exact q,r⟩
  ow:=fun i d h=>by
   rcases bf h with⟨_,z⟩ | ⟨hij,h⟩
   ·cases z
   ·obtain⟨v,q,r⟩:=st'.ow i d h;exact⟨v,by rw[gc (VS hij)];exact q,r⟩
  dis:=fun i i' d d' a h1 h2 h3 h4=>by
   rcases bf h1 with⟨_,z⟩ | ⟨q1,h1⟩
   ·cases z
   rcases bf h2 with⟨_,z⟩ | ⟨q2,h2⟩
   ·cases z
   rw[gc (VS q1)]at h3;rw[gc (VS q2)]at h4;exact st'.dis i i' d d' a h1 h2 h3 h4 }
 have sp:Stp (aE σ ρ) H0 H H0' H':=t1.stp.trans sp' fun a z=>.inl (t1.own a z);have n:NS j σ ρ H0 H (σ.set j (some (.ref L))) ((ρ2.take ρ1.length).set j .un) H0' H' (Dp ds.length []):=
  ⟨st2,sp,fun a z=>.inl (t1.own a (ho' a (om a z))),gc hj0,L,ps,Vz hj,t1.stp.gone hL,n0,fun z=>nL (ho' L (om L z)),hDl,nd,fun p hp=>⟨t1.stp.gone (hps p hp).1,(hps p hp).2,fun z=>t1.st.cL (hps p hp).1 (ho' p (om p z))⟩,hro⟩
 refine hT _ _ _ ⟨σ,ρ,H0,H,H0',_,_,ρ3,r3,n,e3,fun σ4 H4 Hd n4 _=>?_⟩;obtain⟨H5,t5⟩:=n4.done;exact⟨H5,_,o,t5.st,e,k.pre t5⟩
section
variable{X:Cx}{Nl:List Stmt}{pos:Pos}
section
variable{scope:Scope}{is:List Nat}{fi:Dm.FI}{bd:Dm.FB}
theorem UM{J:Nat}(j:Nat)(nm own:List Str){tg iter SN:Expr}{Sl:List Expr}{t:FT}{f:FE}{y:Str}{py Qm:Pos}(hN:X.N.Nodup)(hg:TGc X nm scope own tg is bd)(hi:DI X tg iter fi)(ht:∀cl C s H fp,DTs (bI X nm scope own cl C s H fp) Sl t)(he:∀cl C s H fp,DE (bI X nm scope own cl C s H fp) SN f)
  (hc:X.calm=true:=by rfl) (hk:scope.kind=.function:=by rfl) (hS:rA X.env.scope X.N nm scope=true:=by rfl) (hl:(is.all fun i=>decide (X.N.length<=i))=true:=by rfl) (hj:X.N[j]?=some y:=by rfl) (hy:Loc X.env.scope y:=by trivial)
  (hsw:swapsWith (.ListComp SN [⟨tg,iter,Sl,0⟩] scope pos) (some (.Name y py)) Qm.line X.env=pure true:=by rfl) (hs:∀x,foldedSetIterable iter X.env x=pure x:=by intro _;rfl)
  (hf:X.fn y=true\/X.env.scope.names.lookup y=some .local:=by trivial):DN X J (.Assign [.Name y py] (.ListComp SN [⟨tg,iter,Sl,0⟩] scope pos) Qm) (Dm.nA J j (Dm.gy fi own.length bd t f)):=by
 obtain⟨g,h1,h2⟩:=hg.ex;intro Dz s σ H D I h;exact i6 hN hj hy hc (gB.of hS hk) hi h1 ht he hsw hs hf Dz s σ H D I (Aa h2 (fun i hi=>by rw[I.len];exact xo hl i hi) (UD h))
theorem LM(j:Nat)(nm own:List Str){y:Str}{py Qm Dg:Pos}{tg iter:Expr}{l1 l2:Dm.FN}{gs:FS}{st1 st2:Stmt}(hN:X.N.Nodup)(hg:TGc X nm scope own tg is bd)(hi:DI X tg iter fi)(hl1:DN X j st1 l1)(hl2:DN X j st2 l2)(hre:DSs X Nl gs)
  (hc:X.calm=true:=by rfl) (hk:scope.kind=.function:=by rfl) (hS:rA X.env.scope X.N nm scope=true:=by rfl) (hl:(is.all fun i=>decide (X.N.length<=i))=true:=by rfl) (hj:X.N[j]?=some y:=by rfl) (hy:Loc X.env.scope y:=by trivial)
  (hsw:swapsWith (.ListComp (.List [] Dg) [⟨tg,iter,[],0⟩] scope pos) (some (.Name y py)) Qm.line X.env=pure true:=by rfl) (hs:∀y,foldedSetIterable iter X.env y=pure y:=by intro _;rfl)
  (hf:X.fn y=true\/X.env.scope.names.lookup y=some .local:=by trivial) :
  DSs X (.Assign [.Name y py] (.ListComp (.List [] Dg) [⟨tg,iter,[],0⟩] scope pos) Qm::st1::st2::Nl) (Dm.aR (Dm.lN j fi own.length bd (Dm.BH l1 l2)) gs):=by
 obtain⟨g,h1,h2⟩:=hg.ex;have h:=kc (i6 hN hj hy hc (gB.of hS hk) hi h1 (fun cl C s H fp=>Ab) (fun cl C s H fp=>CS (pos:=Dg) sW) hsw hs hf) (kc hl1 (kc hl2 hre));intro Dz s σ H D I q;exact h Dz s σ H D I (LL (fun D σ H z=>PB z) h2 (fun i hi=>by rw[I.len];exact xo hl i hi) (by rw[I.len];exact(Vm.mp hj).1) q)
end
end
section
variable{X:Cx}{a b:Expr}{fa fb:FE}{pos:Pos}{k:Nat}
theorem Dy(hr:bP k X.A)(ha:DE X a fa)(hb:DE X b fb)(hm:behindInMarks .In b=false:=by rfl):DT X (.Compare a [.In] [b] pos) (Dm.tV (Dm.e2 Dm.o6 fa fb)):=PT.weak (CK (G7 (u1 hr) ha hb) hm) fun σ H Q h=>z_ Lz (wY h)
end
end Br
namespace Dm
section
variable{ρ:Env}{Q:Val->Env->Prop}{o p:Option Dat}{K:RV->Prop}{R:RV->Env->Prop}{N:Env->Prop}{B C:Env->Prop}{d:Dat}{i j:Int}{f:List Dat->Option RV}{α:Type}{ds:List Dat}{as:List FE}{a:FE}{xs:List Val}{ks:List Int}{vs:List Dat}{X Y:Prop}{g:Dat->Option RV}{lo hi:Option FE}{c:Bool}{e:FE}{ds0:List Dat}{body:FS}{v:RV}{ρ2 ρ3:Env}{t:FT}{n m:Nat}{s u:FS}{it:FI}{bd:FB}
def We(e:FE)(ρ:Env)(Q:Val->Env->Prop):Prop:=∃v ρ',e ρ=some (v,ρ')/\Q v ρ'
def Wt(t:FT)(ρ:Env)(Q:Bool->Env->Prop):Prop:=∃v ρ',t ρ=some (v,ρ')/\Q v ρ'
def Was(as:List FE)(ρ:Env)(Q:List Val->Env->Prop):Prop:=∃v ρ',eAs as ρ=some (v,ρ')/\Q v ρ'
def Wi(it:FI)(ρ:Env)(Q:List Dat->Env->Prop):Prop:=∃v ρ',it ρ=some (v,ρ')/\Q v ρ'
def KO(N:Env->Prop)(R:RV->Env->Prop)(B C:Env->Prop):Out->Prop
 |.nx ρ=>N ρ
 |.ret r ρ=>R r ρ
 |.bk ρ=>B ρ
 |.ct ρ=>C ρ
def Ws(s:FS)(ρ:Env)(N:Env->Prop)(R:RV->Env->Prop)(B C:Env->Prop):Prop:=∃o,s ρ=some o/\KO N R B C o
def Wr(o:Option RV)(P:RV->Prop):Prop:=∃r,o=some r/\P r
def Wif(c:Bool)(X Y:Prop):Prop:=(c=true->X)/\(c=false->Y)
def Wg1(g:Dat->Option RV)(o:Option Dat)(K:RV->Prop):Prop:=∃d v,o=some d/\g d=some v/\K v
def Wg2(g:Dat->Dat->Option RV)(o p:Option Dat)(K:RV->Prop):Prop:=∃d e v,o=some d/\p=some e/\g d e=some v/\K v
def WB(g:List Dat->Option RV)(o:Option (List Dat))(K:RV->Prop):Prop:=∃ds v,o=some ds/\g ds=some v/\K v
def WT(o:Option (List Dat×Env))(K:List Dat->Env->Prop):Prop:=∃ds ρ,o=some (ds,ρ)/\ds.length<=SZ/\K ds ρ
def WF(f:List Dat->Option RV)(ρ:Env)(xs:List Val)(Q:Val->Env->Prop):Prop:=∃ds v,pks ρ xs=some ds/\f ds=some v/\(if lK v.dat then ∃ds' ρ2,tks ρ xs=some (ds',ρ2)/\Q v.cu ρ2 else Q v.cu ρ)
def Wk(ρ:Env)(x:Val)(K:Dat->Env->Prop):Prop:=∃d ρ',tk ρ x=some (d,ρ')/\K d ρ'
def Wp(o:Option FE)(ρ:Env)(K:Option Int->Env->Prop):Prop:=∃i ρ',part o ρ=some (i,ρ')/\K i ρ'
theorem Zr(x:X):Wif true X Y:=⟨fun _=>x,fun h=>by cases h⟩
theorem Zl(y:Y):Wif false X Y:=⟨fun h=>(by cases h),fun _=>y⟩
theorem ZR(h:c=true)(x:X):Wif c X Y:=⟨fun _=>x,fun h'=>by rw[h]at h';cases h'⟩
theorem Zx(h:c=false)(y:Y):Wif c X Y:=⟨fun h'=>(by rw[h]at h';cases h'),fun _=>y⟩
theorem Zi{p:Prop}[Decidable p](x:p->X)(y:¬p->Y):Wif (decide p) X Y:=⟨fun h=>x (of_decide_eq_true h),fun h=>y (of_decide_eq_false h)⟩
theorem V_{i:Nat}(h:ρ[i]?=some (.sh d))(q:Q (.val d) ρ):We (eV i) ρ Q:=⟨_,_,by unfold eV;rw[h],q⟩
theorem Y0{i:Nat}(h:ρ[i]?=some (.ow d))(q:Q (.slot i) ρ):We (eV i) ρ Q:=⟨_,_,by unfold eV;rw[h],q⟩
theorem YW(q:Q (.val d) ρ):We (eC d) ρ Q:=⟨_,_,rfl,q⟩
theorem Ze(h:We a ρ fun x ρ1=>Wg1 g (pk ρ1 x) fun v=>Q v.cu ρ1):We (e1 g a) ρ Q:=by obtain⟨x,ρ1,h1,d,v,h2,h3,q⟩:=h;exact⟨_,_,by unfold Dm.e1;rw[h1];dsimp only;rw[h2];dsimp only;rw[h3],q⟩
theorem X_{g:Dat->Dat->Option RV}{a b:FE}(h:We a ρ fun x ρ1=>We b ρ1 fun y ρ2=>Wg2 g (pk ρ2 x) (pk ρ2 y) fun v=>Q v.cu ρ2):We (e2 g a b) ρ Q:=by obtain⟨x,ρ1,h1,y,ρ2,h2,d,e,v,h3,h4,h5,q⟩:=h;exact⟨_,_,by unfold Dm.e2;rw[h1];dsimp only;rw[h2];dsimp only;rw[h3];dsimp only;rw[h4];dsimp only;rw[h5],q⟩
theorem W_{Q:List Val->Env->Prop}(q:Q [] ρ):Was [] ρ Q:=⟨_,_,rfl,q⟩
theorem m_{r:List FE}{Q:List Val->Env->Prop}(h:We a ρ fun x ρ1=>Was r ρ1 fun xs ρ2=>Q (x::xs) ρ2):Was (a::r) ρ Q:=by obtain⟨x,ρ1,h1,xs,ρ2,h2,q⟩:=h;exact⟨_,_,by unfold eAs;rw[h1];dsimp only;rw[h2],q⟩
theorem Zm{g:List Dat->Option RV}(h:Was as ρ fun xs ρ1=>WB g (pks ρ1 xs) fun v=>Q v.cu ρ1):We (eB g as) ρ Q:=by obtain⟨x,ρ1,h1,d,v,h2,h3,q⟩:=h;exact⟨_,_,by unfold eB;rw[h1];dsimp only;rw[h2];dsimp only;rw[h3],q⟩
theorem Zy(h:Was as ρ fun xs ρ1=>WT (tks ρ1 xs) fun ds ρ2=>Q (.val (.tup ds)) ρ2):We (jy as) ρ Q:=by obtain⟨x,ρ1,h1,ds,ρ2,h2,h3,q⟩:=h;exact⟨_,_,by unfold jy;rw[h1];dsimp only;rw[h2];dsimp only;rw[if_pos h3],q⟩
theorem Zj(h:Was as ρ fun xs ρ1=>WT (tks ρ1 xs) fun ds ρ2=>Q (.new (.lst ds)) ρ2):We (jz as) ρ Q:=by obtain⟨x,ρ1,h1,ds,ρ2,h2,h3,q⟩:=h;exact⟨_,_,by unfold jz;rw[h1];dsimp only;rw[h2];dsimp only;rw[if_pos h3],q⟩
theorem Y7{K:List Dat->Env->Prop}(k:K ds ρ3)(h:tks ρ xs=some (ds,ρ2))(hn:ρ2=ρ3)(hl:ds.length<=SZ):WT (tks ρ xs) K:=⟨_,_,hn▸h,hl,k⟩
theorem Y8(h:Was as ρ fun xs ρ1=>WF f ρ1 xs Q):We (eF f as) ρ Q:=by
 obtain⟨x,ρ1,h1,ds,v,h2,h3,h4⟩:=h;by_cases hb:lK v.dat=true
 ·rw[if_pos hb]at h4;obtain⟨ds',ρ2,h5,q⟩:=h4;exact⟨_,_,by unfold eF;rw[h1];dsimp only;rw[h2];dsimp only;rw[h3];dsimp only;rw[if_pos hb,h5],q⟩
 ·rw[if_neg hb]at h4;exact⟨_,_,by unfold eF;rw[h1];dsimp only;rw[h2];dsimp only;rw[h3];dsimp only;rw[if_neg hb],h4⟩
theorem Zk{ρ ρ2 ρ3:Env}{ds ds':List Dat}(h2:f ds=some v)(q:Q v.cu ρ3)(h1:pks ρ xs=some ds)(h3:lK v.dat=true)(h4:tks ρ xs=some (ds',ρ2))(hn:ρ2=ρ3):WF f ρ xs Q:=
 ⟨_,_,h1,h2,by rw[if_pos h3];exact⟨_,_,h4,hn▸q⟩⟩
theorem Y9(h2:f ds=some v)(q:Q v.cu ρ)(h1:pks ρ xs=some ds)(h3:lK v.dat=false):WF f ρ xs Q:=
 ⟨_,_,h1,h2,by rw[if_neg (by rw[h3];decide)];exact q⟩
def Wb(v:Val)(K:Bool->Prop):Prop:=∃c,v=.val (.bl c)/\K c
theorem YY{K:Bool->Prop}(k:K c):Wb (.val (.bl c)) K:=⟨c,rfl,k⟩
theorem Zf{a b:FE}(h:We a ρ fun v ρ1=>Wb v fun c=>Wif c (We b ρ1 Q) (Q (.val (.bl false)) ρ1)):We (vh a b) ρ Q:=by
 obtain⟨v,ρ1,h1,c,rfl,h2,h3⟩:=h;cases c with
 |true=>obtain⟨v,ρ2,h4,q⟩:=h2 rfl;exact⟨_,_,by unfold vh;rw[h1];exact h4,q⟩
 |false=>exact⟨_,_,by unfold vh;rw[h1],h3 rfl⟩
theorem aae(h:We a ρ fun v ρ1=>Wb v fun c=>Q (.val (.bl (!c))) ρ1):We (FG a) ρ Q:=by obtain⟨v,ρ1,h1,c,rfl,h2⟩:=h;exact⟨_,_,by unfold FG;rw[h1],h2⟩
theorem Y_{Q:Bool->Env->Prop}(h:We a ρ fun v ρ1=>Wb v fun c=>Q c ρ1):Wt (tV a) ρ Q:=by obtain⟨v,ρ1,h1,c,rfl,h2⟩:=h;exact⟨_,_,by unfold tV;rw[h1],h2⟩
theorem ZD{Q:Bool->Env->Prop}(h:Wt t ρ fun c ρ1=>Q (!c) ρ1):Wt (sV t) ρ Q:=by obtain⟨v,ρ1,h1,h2⟩:=h;exact⟨_,_,by unfold sV;rw[h1],h2⟩
theorem Zv{t u:FT}{Q:Bool->Env->Prop}(h:Wt t ρ fun c ρ1=>Wif c (Wt u ρ1 Q) (Q false ρ1)):Wt (o7 t u) ρ Q:=by
 obtain⟨c,ρ1,h1,h2,h3⟩:=h;cases c with
 |true=>obtain⟨v,ρ2,h4,q⟩:=h2 rfl;exact⟨_,_,by unfold o7;rw[h1];exact h4,q⟩
 |false=>exact⟨_,_,by unfold o7;rw[h1],h3 rfl⟩
theorem Z9{t u:FT}{Q:Bool->Env->Prop}(h:Wt t ρ fun c ρ1=>Wif c (Q true ρ1) (Wt u ρ1 Q)):Wt (tOr t u) ρ Q:=by
 obtain⟨c,ρ1,h1,h2,h3⟩:=h;cases c with
 |false=>obtain⟨v,ρ2,h4,q⟩:=h3 rfl;exact⟨_,_,by unfold tOr;rw[h1];exact h4,q⟩
 |true=>exact⟨_,_,by unfold tOr;rw[h1],h2 rfl⟩
theorem aaC{Q:Bool->Env->Prop}(h:We a ρ fun x ρ1=>∃d c,pk ρ1 x=some d/\truth d=some c/\Q c ρ1):Wt (tTr a) ρ Q:=by obtain⟨x,ρ1,h1,d,c,h2,h3,q⟩:=h;exact⟨_,_,by unfold tTr;rw[h1];dsimp only;rw[h2];dsimp only;rw[h3],q⟩
theorem Z8{Q:Bool->Env->Prop}(q:Q true ρ):Wt iE ρ Q:=⟨_,_,rfl,q⟩
theorem Y6{K:Dat->Env->Prop}(k:K d ρ):Wk ρ (.val d) K:=⟨_,_,rfl,k⟩
theorem Zu{K:Dat->Env->Prop}(k:K d ρ):Wk ρ (.new d) K:=⟨_,_,rfl,k⟩
theorem Z6{ρ ρ':Env}{i:Nat}{K:Dat->Env->Prop}(k:K d ρ')(h:ρ[i]?=some (.ow d))(hs:ρ.set i (.sh d)=ρ'):Wk ρ (.slot i) K:=⟨_,_,by unfold tk;dsimp only;rw[h];dsimp only;rw[hs],k⟩
noncomputable def IX:Dat->Option (List Dat)
 |.lst ds=>some ds
 |.tup ds=>some ds
 |_=>none
theorem ZA{Q:List Dat->Env->Prop}(h:We a ρ fun x ρ1=>Wk ρ1 x fun d ρ2=>∃ds,IX d=some ds/\Q ds ρ2):Wi (iS a) ρ Q:=by
 obtain⟨x,ρ1,h1,d,ρ2,h2,ds,hd,q⟩:=h;cases d with
 |lst xs=>cases hd;exact⟨_,_,by unfold iS;rw[h1];dsimp only;rw[h2],q⟩
 |tup xs=>cases hd;exact⟨_,_,by unfold iS;rw[h1];dsimp only;rw[h2],q⟩
 |_=>cases hd
def jl(v:Val)(K:Int->Prop):Prop:=∃i,v=.val (.int i)/\K i
theorem jl.mk{i:Int}{K:Int->Prop}(k:K i):jl (.val (.int i)) K:=⟨i,rfl,k⟩
theorem ZH{Q:List Dat->Env->Prop}(h:We a ρ fun v ρ1=>jl v fun j=>Q (ups 0 j.toNat) ρ1/\j<=BIG/\-BIG<=j):Wi (iR1 a) ρ Q:=by obtain⟨v,ρ1,h1,j,rfl,q,h2⟩:=h;exact⟨_,_,by unfold iR1;rw[h1];dsimp only;rw[if_pos h2],q⟩
theorem aal{a b:FE}{Q:List Dat->Env->Prop}(h:We a ρ fun v ρ1=>jl v fun i=>We b ρ1 fun w ρ2=>jl w fun j=>Q (ups i (j-i).toNat) ρ2/\j<=BIG/\-BIG<=j/\i<=BIG/\-BIG<=i):Wi (iR2 a b) ρ Q:=by obtain⟨v,ρ1,h1,i,rfl,w,ρ2,h2,j,rfl,q,h3⟩:=h;exact⟨_,_,by unfold iR2;rw[h1];dsimp only;rw[h2];dsimp only;rw[if_pos h3],q⟩
theorem Wp.none{K:Option Int->Env->Prop}(k:K none ρ):Wp none ρ K:=⟨_,_,rfl,k⟩
theorem Wp.some{f:FE}{K:Option Int->Env->Prop}(h:We f ρ fun v ρ1=>jl v fun i=>K (some i) ρ1):Wp (some f) ρ K:=by obtain⟨v,ρ1,h1,i,rfl,k⟩:=h;exact⟨_,_,by unfold part;dsimp only;rw[h1],k⟩
def Wsl(o:Option Dat)(l h:Option Int)(K:Dat->Prop):Prop:=∃xs,o=some (.lst xs)/\K (.lst (cut xs l h))
noncomputable def LN{α:Type}(xs:List α)(lo hi:Option Int):List α:=(xs.drop (sIx xs.length 0 lo)).take (sIx xs.length xs.length hi-sIx xs.length 0 lo)
theorem SJ(I_:α->Dat)(xs:List α)(lo hi:Option Int):cut (xs.map I_) lo hi=(LN xs lo hi).map I_:=by unfold cut LN;rw[Pa,<- List.map_drop,<- List.map_take]
theorem aao(h:We a ρ fun x ρ1=>Wp lo ρ1 fun l ρ2=>Wp hi ρ2 fun h ρ3=>Wsl (pk ρ3 x) l h fun d=>Q (.new d) ρ3):We (eSl a lo hi) ρ Q:=by obtain⟨x,ρ1,h1,l,ρ2,h2,hh,ρ3,h3,xs,h4,q⟩:=h;exact⟨_,_,by unfold eSl;rw[h1];dsimp only;rw[h2];dsimp only;rw[h3];dsimp only;rw[h4],q⟩
theorem Z1(h:We a ρ fun x ρ1=>Wp lo ρ1 fun l ρ2=>Wp hi ρ2 fun h ρ3=>∃xs,pk ρ3 x=some (.tup xs)/\¬(sIx xs.length 0 l=0/\sIx xs.length xs.length h=xs.length)/\Q (.val (.tup (cut xs l h))) ρ3):We (C7 a lo hi) ρ Q:=by obtain⟨x,ρ1,h1,l,ρ2,h2,hh,ρ3,h3,xs,h4,h5,q⟩:=h;exact⟨_,_,by unfold C7;rw[h1];dsimp only;rw[h2];dsimp only;rw[h3];dsimp only;rw[h4];dsimp only;rw[if_neg h5],q⟩
theorem Zh(n:N ρ):Ws sNx ρ N R B C:=⟨_,rfl,n⟩
theorem YV(h:Ws s ρ (fun ρ1=>Ws u ρ1 N R B C) R B C):Ws (aR s u) ρ N R B C:=by
 obtain⟨o,h1,h2⟩:=h;cases o with
 |nx ρ1=>obtain⟨o,h3,h4⟩:=h2;exact⟨o,by unfold aR;rw[h1];exact h3,h4⟩
 |ret r ρ1=>exact⟨.ret r ρ1,by unfold aR;rw[h1],h2⟩
 |bk ρ1=>exact⟨.bk ρ1,by unfold aR;rw[h1],h2⟩
 |ct ρ1=>exact⟨.ct ρ1,by unfold aR;rw[h1],h2⟩
def WA(i:Nat)(v:Val)(ρ:Env)(N:Env->Prop):Prop:=match v with
 |.new d=>N (ρ.set i (.ow d))
 |x=>Wk ρ x fun d ρ2=>N (ρ2.set i (.sh d))
theorem YX{i:Nat}(h:We e ρ fun v ρ1=>WA i v ρ1 N)(hi:i≠0):Ws (sA i e) ρ N R B C:=by
 obtain⟨v,ρ1,h1,h2⟩:=h;cases v with
 |new d=>exact⟨.nx _,by unfold sA;rw[if_neg hi,h1],h2⟩
 |val d=>obtain⟨d',ρ2,h3,h4⟩:=h2;exact⟨.nx _,by unfold sA;rw[if_neg hi,h1];dsimp only;rw[h3],h4⟩
 |slot j=>obtain⟨d',ρ2,h3,h4⟩:=h2;exact⟨.nx _,by unfold sA;rw[if_neg hi,h1];dsimp only;rw[h3],h4⟩
theorem YZ{i:Nat}{ρ ρ2:Env}(n:N ρ2)(hs:ρ.set i (.ow d)=ρ2):WA i (.new d) ρ N:=by unfold WA;dsimp only;rw[hs];exact n
theorem Y3{i:Nat}{ρ ρ2:Env}(n:N ρ2)(hs:ρ.set i (.sh d)=ρ2):WA i (.val d) ρ N:=⟨_,_,rfl,by show N _;rw[hs];exact n⟩
theorem ZV(h:We e ρ fun _ ρ1=>N ρ1):Ws (sE e) ρ N R B C:=by obtain⟨x,ρ1,h1,n⟩:=h;exact⟨.nx _,by unfold sE;rw[h1],n⟩
def WR(v:Val)(ρ:Env)(R:RV->Env->Prop):Prop:=match v with
 |.new d=>R (.new d) ρ
 |.val d=>R (.val d) ρ
 |.slot i=>(∃d,ρ[i]?=some (.ow d)/\R (.new d) (ρ.set i .un))
theorem Zb(h:We e ρ fun v ρ1=>WR v ρ1 R):Ws (sR e) ρ N R B C:=by
 obtain⟨v,ρ1,h1,h2⟩:=h;cases v with
 |new d=>exact⟨.ret _ _,by unfold sR;rw[h1],h2⟩
 |val d=>exact⟨.ret _ _,by unfold sR;rw[h1],h2⟩
 |slot i=>obtain⟨d,h3,h4⟩:=h2;exact⟨.ret _ _,by unfold sR;rw[h1];dsimp only;rw[h3],h4⟩
theorem aaz(r:R (.new d) ρ):WR (.new d) ρ R:=r
theorem Zs(r:R (.val d) ρ):WR (.val d) ρ R:=r
theorem Zq{i:Nat}(r:R (.new d) (ρ.set i .un))(h:ρ[i]?=some (.ow d)):WR (.slot i) ρ R:=⟨d,h,r⟩
theorem Zo{a b:FS}(h:Wt t ρ fun c ρ1=>Wif c (Ws a ρ1 N R B C) (Ws b ρ1 N R B C)):Ws (sIf t a b) ρ N R B C:=by
 obtain⟨c,ρ1,h1,h2,h3⟩:=h;cases c with
 |true=>obtain⟨o,h4,q⟩:=h2 rfl;exact⟨_,by unfold sIf;rw[h1];exact h4,q⟩
 |false=>obtain⟨o,h4,q⟩:=h3 rfl;exact⟨_,by unfold sIf;rw[h1];exact h4,q⟩
theorem ZL{i:Nat}(h:We e ρ fun x ρ1=>Wk ρ1 x fun d ρ2=>∃ds ρ3,ρ2[i]?=some (.ow (.lst ds))/\ρ2.set i (.ow (.lst (ds++[d])))=ρ3/\N ρ3/\ds.length<SZ)(h0:ρ[i]?=some (.ow (.lst ds0))):Ws (Ba i e) ρ N R B C:=by obtain⟨x,ρ1,h1,d,ρ2,h2,ds,ρ3,h3,h5,n,h4⟩:=h;exact⟨.nx _,by unfold Ba;rw[h0];dsimp only;rw[h1];dsimp only;rw[h2];dsimp only;rw[h3];dsimp only;rw[if_pos h4,h5],n⟩
theorem Az{i:Nat}(n:N ρ3)(h:ρ2[i]?=some (.ow (.lst ds)))(hs:ρ2.set i (.ow (.lst (ds++[d])))=ρ3)(hl:ds.length<SZ):∃ds ρ3,ρ2[i]?=some (.ow (.lst ds))/\ρ2.set i (.ow (.lst (ds++[d])))=ρ3/\N ρ3/\ds.length<SZ:=⟨_,_,h,hs,n,hl⟩
theorem aax{i:Nat}{j e:FE}(h:We e ρ fun x ρ1=>Wk ρ1 x fun d ρ2=>(∃d0,ρ2[i]?=some (.ow d0))/\We j ρ2 fun y ρ3=>jl y fun k=>∃ds m ρ4,ρ3[i]?=some (.ow (.lst ds))/\ixN ds.length k=some m/\ρ3.set i (.ow (.lst (ds.set m d)))=ρ4/\N ρ4):Ws (FH i j e) ρ N R B C:=by obtain⟨x,ρ1,h1,d,ρ2,h2,⟨d0,h0⟩,y,ρ3,h3,k,rfl,ds,m,ρ4,h4,h5,h6,n⟩:=h;exact⟨.nx _,by unfold FH;rw[h1];dsimp only;rw[h2];dsimp only;rw[h0];dsimp only;rw[h3];dsimp only;rw[h4];dsimp only;rw[h5];dsimp only;rw[h6],n⟩
theorem aam{i:Nat}{j e:FE}(h:We e ρ fun x ρ1=>Wk ρ1 x fun d ρ2=>(∃d0,ρ2[i]?=some (.ow d0))/\We j ρ2 fun y ρ3=>jl y fun k=>∃ks vs ρ4,ρ3[i]?=some (.ow (.dct ks vs))/\ρ3.set i (.ow (.dct (uT ks k) (uU ks vs k d)))=ρ4/\N ρ4/\ks.length<SZ):Ws (zk i j e) ρ N R B C:=by obtain⟨x,ρ1,h1,d,ρ2,h2,⟨d0,h0⟩,y,ρ3,h3,k,rfl,ks,vs,ρ4,h4,h5,n,h6⟩:=h;exact⟨.nx _,by unfold zk;rw[h1];dsimp only;rw[h2];dsimp only;rw[h0];dsimp only;rw[h3];dsimp only;rw[h4];dsimp only;rw[if_pos h6,h5],n⟩
theorem EV{i:Nat}{k:Int}{ρ3 ρ4:Env}(n:N ρ4)(h:ρ3[i]?=some (.ow (.dct ks vs)))(hs:ρ3.set i (.ow (.dct (uT ks k) (uU ks vs k d)))=ρ4)(hl:ks.length<SZ):∃ks vs ρ4,ρ3[i]?=some (.ow (.dct ks vs))/\ρ3.set i (.ow (.dct (uT ks k) (uU ks vs k d)))=ρ4/\N ρ4/\ks.length<SZ:=⟨_,_,_,h,hs,n,hl⟩
theorem Zp(h:Wi it ρ fun ds ρ1=>Ws (s_ bd body ds) ρ1 N R B C):Ws (tu it bd body) ρ N R B C:=by obtain⟨ds,ρ1,h1,o,h2,h3⟩:=h;exact⟨o,by unfold tu;rw[h1];exact h2,h3⟩
theorem Zt(I_:α->Dat)(bd:FB)(body:FS)(xs:List α)(ρ:Env)(N:Env->Prop)(R:RV->Env->Prop)(B C:Env->Prop)(I:List α->List α->Env->Prop)
  (h0:I [] xs ρ) (hs:∀p x q ρ,xs=p++x::q->I p (x::q) ρ->∃ρ1,bd (I_ x) ρ=some ρ1/\Ws body ρ1 (fun ρ2=>I (p++[x]) q ρ2) R N (fun ρ2=>I (p++[x]) q ρ2)) (he:∀ρ,I xs [] ρ->N ρ):Ws (s_ bd body (xs.map I_)) ρ N R B C:=by
 have go:∀(q p:List α) (ρ:Env),xs=p++q->I p q ρ->Ws (s_ bd body (q.map I_)) ρ N R B C:=fun q=>by
  induction q with
  |nil=>intro p ρ e i;rw[VQ]at e;exact⟨.nx _,rfl,he ρ (e▸i)⟩
  |cons x q ih=>
   intro p ρ e i;obtain⟨ρ1,h1,o,h2,h3⟩:=hs p x q ρ e i;have e':xs=(p++[x])++q:=by rw[Wa];exact e
   cases o with
   |nx ρ2=>obtain⟨o,h4,h5⟩:=ih _ _ e' h3;exact⟨o,by rw[gV,s_,h1];dsimp only;rw[h2];exact h4,h5⟩
   |ct ρ2=>obtain⟨o,h4,h5⟩:=ih _ _ e' h3;exact⟨o,by rw[gV,s_,h1];dsimp only;rw[h2];exact h4,h5⟩
   |bk ρ2=>exact⟨.nx _,by rw[gV,s_,h1];dsimp only;rw[h2],h3⟩
   |ret r ρ2=>exact⟨.ret _ _,by rw[gV,s_,h1];dsimp only;rw[h2],h3⟩
 exact go xs [] ρ rfl h0
theorem Y4{P:RV->Prop}(b:Ws body ρ (fun _=>P (.val .non)) (fun r _=>P r) (fun _=>False) (fun _=>False))(hρ:ds.map Cell.sh++Dp m .un=ρ)(h:ds.length=n):Wr (fn n m body ds) P:=by
 obtain⟨o,h1,h2⟩:=b;cases o with
 |nx ρ1=>exact⟨_,by unfold Dm.fn;rw[if_pos h,hρ,h1],h2⟩
 |ret r ρ1=>exact⟨_,by unfold Dm.fn;rw[if_pos h,hρ,h1],h2⟩
 |bk ρ1=>exact h2.elim
 |ct ρ1=>exact h2.elim
theorem Za{o:Option RV}{r:RV}(h:Wr o fun x=>x=r):o=some r:=by obtain⟨x,h1,rfl⟩:=h;exact h1
theorem EW(I_:α->Dat)(p:α->Bool)(v:α->Dat)(bd:FB)(t:FT)(el:FE)(mk:Cell->Env)(hb:∀d c,bd d (mk c)=some (mk (.sh d))):∀(xs:List α) (c:Cell) (Qa:List Dat),
  (∀x∈xs,t (mk (.sh (I_ x)))=some (p x,mk (.sh (I_ x))))->(∀x∈xs,p x=true->We el (mk (.sh (I_ x))) fun w ρ'=>Wk ρ' w fun d ρ''=>d=v x/\ρ''=mk (.sh (I_ x))) ->
  ∃c',lM bd t el (xs.map I_) (mk c) Qa=some (Qa++(xs.filter p).map v,mk c')
 |[],c,Qa,_,_=>⟨c,by simp[lM]⟩
 |x::xs,c,Qa,ht,he=>by
  rw[gV,lM,hb];dsimp only;rw[ht x PU];have ht':=fun y hy=>ht y (Ds _ hy);have he':=fun y hy=>he y (Ds _ hy);by_cases h:p x=true
  ·obtain⟨w,ρ',h1,d,ρ'',h2,rfl,rfl⟩:=he x PU h;rw[h];dsimp only;rw[h1];dsimp only;rw[h2];obtain⟨c',e⟩:=EW I_ p v bd t el mk hb xs (.sh (I_ x)) (Qa++[v x]) ht' he';exact⟨c',by dsimp only;rw[e,Wo h];simp⟩
  ·rw[Bool.not_eq_true]at h;rw[h];obtain⟨c',e⟩:=EW I_ p v bd t el mk hb xs (.sh (I_ x)) Qa ht' he';exact⟨c',by dsimp only;rw[e,Wn (by rw[h];decide)]⟩
theorem ZJ(h:Wt t ρ fun c' ρ'=>c'=c/\ρ'=ρ):t ρ=some (c,ρ):=by obtain⟨_,_,h1,rfl,rfl⟩:=h;exact h1
theorem Z3(I_:α->Dat)(xs:List α)(p:α->Bool)(v:α->Dat){it:FI}{k:Nat}{t:FT}{el:FE}{ρ ρ1:Env}{Q:Val->Env->Prop}
  (q:Q (.new (.lst ((xs.filter p).map v))) ρ1) (SQ:it ρ=some (xs.map I_,ρ1)) (hk:ρ1.length=k) (hk0:k≠0) (hl:xs.length<=SZ)
  (ht:∀x∈xs,Wt t (ρ1++[.sh (I_ x)]) fun c ρ'=>c=p x/\ρ'=ρ1++[.sh (I_ x)])
  (he:∀x∈xs,p x=true->We el (ρ1++[.sh (I_ x)]) fun w ρ'=>Wk ρ' w fun d ρ''=>d=v x/\ρ''=ρ1++[.sh (I_ x)]):We (gy it 1 (bN k) t el) ρ Q:=by
 have bd:∀(d:Dat) (c:Cell),bN k d (ρ1++[c])=some (ρ1++[.sh d]):=fun d c=>by unfold bN;rw[if_neg hk0,Xq _ _ (by lia)];simp[hk]
 obtain⟨c',e⟩:=EW I_ p v (bN k) t el (fun c=>ρ1++[c]) bd xs .un [] (fun x hx=>ZJ (ht x hx)) he;refine⟨_,_,?_,q⟩;unfold gy;rw[SQ];dsimp only;rw[if_pos (by rw[Pa];exact hl)];show (match lM _ _ _ _ (ρ1++[.un]) [] with | none=>none | some (ys,ρ2)=>some (Val.new (.lst ys),ρ2.take ρ1.length))=_;rw[e];dsimp only;rw[WW,List.take_left]
theorem aaj(I_:α->Dat)(xs:List α)(p:α->Bool)(v:α->Dat){i:Nat}{k:Nat}{t:FT}{el:FE}{ρ:Env}{Q:Val->Env->Prop}{d:Dat}
  (q:Q (.new (.lst ((xs.filter p).map v))) ρ) (hi:ρ[i]?=some (.sh d)) (hd:IX d=some (xs.map I_)) (hk:ρ.length=k) (hk0:k≠0) (hl:xs.length<=SZ)
  (ht:∀x∈xs,Wt t (ρ++[.sh (I_ x)]) fun c ρ'=>c=p x/\ρ'=ρ++[.sh (I_ x)])
  (he:∀x∈xs,p x=true->We el (ρ++[.sh (I_ x)]) fun w ρ'=>Wk ρ' w fun d ρ''=>d=v x/\ρ''=ρ++[.sh (I_ x)]):We (bQ i 1 (bN k) t el) ρ Q:=by
 have SQ:iS (eV i) ρ=some (xs.map I_,ρ):=by
  unfold iS eV;rw[hi];cases d with
  |lst ys=>cases hd;rfl
  |tup ys=>cases hd;rfl
  |_=>cases hd
 obtain⟨a,ρ',h1,h2⟩:=Z3 I_ xs p v (Q:=Q) q SQ hk hk0 hl ht he;refine⟨a,ρ',?_,h2⟩;unfold bQ;rw[hi];exact h1
theorem aaG(I_:α->Dat)(xs:List α)(p:α->Bool)(v:α->Dat){i:Nat}{k:Nat}{t:FT}{el:FE}{ρ ρ1:Env}{Q:Val->Env->Prop}
  (q:Q (.new (.lst ((xs.filter p).map v))) ρ) (hi:ρ[i]?=some (.ow (.lst (xs.map I_)))) (h1:ρ.set i .un=ρ1) (hk:ρ.length=k) (hk0:k≠0) (hl:xs.length<=SZ)
  (ht:∀x∈xs,Wt t (ρ1++[.sh (I_ x)]) fun c ρ'=>c=p x/\ρ'=ρ1++[.sh (I_ x)])
  (he:∀x∈xs,p x=true->We el (ρ1++[.sh (I_ x)]) fun w ρ'=>Wk ρ' w fun d ρ''=>d=v x/\ρ''=ρ1++[.sh (I_ x)]):We (bQ i 1 (bN k) t el) ρ Q:=by
 have IY:ρ1.length=ρ.length:=by rw[<- h1,VT]
 have hil:i<ρ.length:=(Vm.mp hi).1;have bd:∀(d:Dat) (c:Cell),bN k d (ρ1++[c])=some (ρ1++[.sh d]):=fun d c=>by unfold bN;rw[if_neg hk0,Xq _ _ (by lia)];simp[hk,IY]
 obtain⟨c',e⟩:=EW I_ p v (bN k) t el (fun c=>ρ1++[c]) bd xs .un [] (fun x hx=>ZJ (ht x hx)) he;refine⟨_,_,?_,q⟩;unfold bQ;rw[hi];dsimp only;rw[if_pos (by rw[Pa];exact hl),h1];show (match lM _ _ _ _ (ρ1++[.un]) [] with | none=>none | some (ys,ρ2)=>some (Val.new (.lst ys),(ρ2.take ρ.length).set i (.ow (.lst (xs.map I_)))))=_;rw[e];dsimp only;rw[WW,<- IY,List.take_left,<- h1,YO]
 congr 2
 apply W9;intro j;by_cases h:i=j
 ·subst h;rw[Vz hil,hi]
 ·rw[gc h]
theorem ZO{α β:Type}(I_:α->Dat)(xs:List α)(f:α->β)(pH:β->Dat){it:FI}{k:Nat}{el:FE}{ρ ρ1:Env}{Q:Val->Env->Prop}
  (q:Q (.new (.lst ((xs.map f).map pH))) ρ1) (SQ:it ρ=some (xs.map I_,ρ1)) (hk:ρ1.length=k) (hk0:k≠0) (hl:xs.length<=SZ)
  (he:∀x∈xs,We el (ρ1++[.sh (I_ x)]) fun w ρ'=>Wk ρ' w fun d ρ''=>d=pH (f x)/\ρ''=ρ1++[.sh (I_ x)]):We (gy it 1 (bN k) iE el) ρ Q:=
 Z3 I_ xs (fun _=>true) (fun x=>pH (f x)) (by rw[Xy.mpr (fun _ _=>rfl)];rw[V0]at q;exact q) SQ hk hk0 hl (fun _ _=>Z8 ⟨rfl,rfl⟩) fun x hx _=>he x hx
theorem aaD{α β:Type}(I_:α->Dat)(xs:List α)(f:α->β)(pH:β->Dat){i:Nat}{k:Nat}{el:FE}{ρ:Env}{Q:Val->Env->Prop}{d:Dat}
  (q:Q (.new (.lst ((xs.map f).map pH))) ρ) (hi:ρ[i]?=some (.sh d)) (hd:IX d=some (xs.map I_)) (hk:ρ.length=k) (hk0:k≠0) (hl:xs.length<=SZ)
  (he:∀x∈xs,We el (ρ++[.sh (I_ x)]) fun w ρ'=>Wk ρ' w fun d ρ''=>d=pH (f x)/\ρ''=ρ++[.sh (I_ x)]):We (bQ i 1 (bN k) iE el) ρ Q:=
 aaj I_ xs (fun _=>true) (fun x=>pH (f x)) (by rw[Xy.mpr (fun _ _=>rfl)];rw[V0]at q;exact q) hi hd hk hk0 hl (fun _ _=>Z8 ⟨rfl,rfl⟩) fun x hx _=>he x hx
theorem aai{α β:Type}(I_:α->Dat)(xs:List α)(f:α->β)(pH:β->Dat){i:Nat}{k:Nat}{el:FE}{ρ ρ1:Env}{Q:Val->Env->Prop}
  (q:Q (.new (.lst ((xs.map f).map pH))) ρ) (hi:ρ[i]?=some (.ow (.lst (xs.map I_)))) (h1:ρ.set i .un=ρ1) (hk:ρ.length=k) (hk0:k≠0) (hl:xs.length<=SZ)
  (he:∀x∈xs,We el (ρ1++[.sh (I_ x)]) fun w ρ'=>Wk ρ' w fun d ρ''=>d=pH (f x)/\ρ''=ρ1++[.sh (I_ x)]):We (bQ i 1 (bN k) iE el) ρ Q:=
 aaG I_ xs (fun _=>true) (fun x=>pH (f x)) (by rw[Xy.mpr (fun _ _=>rfl)];rw[V0]at q;exact q) hi h1 hk hk0 hl (fun _ _=>Z8 ⟨rfl,rfl⟩) fun x hx _=>he x hx
theorem ZK{α β:Type}(I_:α->Dat)(xs:List α)(p:α->Bool)(f:α->β)(pH:β->Dat){i:Nat}{k:Nat}{t:FT}{el:FE}{ρ:Env}{Q:Val->Env->Prop}{d:Dat}
  (q:Q (.new (.lst (((xs.filter p).map f).map pH))) ρ) (hi:ρ[i]?=some (.sh d)) (hd:IX d=some (xs.map I_)) (hk:ρ.length=k) (hk0:k≠0) (hl:xs.length<=SZ)
  (ht:∀x∈xs,Wt t (ρ++[.sh (I_ x)]) fun c ρ'=>c=p x/\ρ'=ρ++[.sh (I_ x)])
  (he:∀x∈xs,p x=true->We el (ρ++[.sh (I_ x)]) fun w ρ'=>Wk ρ' w fun d ρ''=>d=pH (f x)/\ρ''=ρ++[.sh (I_ x)]):We (bQ i 1 (bN k) t el) ρ Q:=
 aaj I_ xs p (fun x=>pH (f x)) (by rw[V0]at q;exact q) hi hd hk hk0 hl ht he
theorem EX(i j:Int):gEq (.int i) (.int j)=vB (decide (i=j)):=by
 have:(i == j)=decide (i=j):=by by_cases h:i=j<;>simp[h]
 show vB (i == j)=_;rw[this]
theorem LO(i j:Int):gNe (.int i) (.int j)=vB (!decide (i=j)):=by
 have:(i == j)=decide (i=j):=by by_cases h:i=j<;>simp[h]
 show vB (!(i == j))=_;rw[this]
theorem ZC(k:K (.val (.bl (decide (i=j)))))(ho:o=some (.int i))(hp:p=some (.int j)):Wg2 gEq o p K:=⟨_,_,_,ho,hp,EX i j,k⟩
theorem ZM(k:K (.val (.bl (!decide (i=j)))))(ho:o=some (.int i))(hp:p=some (.int j)):Wg2 gNe o p K:=⟨_,_,_,ho,hp,LO i j,k⟩
theorem ZZ(k:K (.val (.bl (decide (i<j)))))(ho:o=some (.int i))(hp:p=some (.int j)):Wg2 gLt o p K:=⟨_,_,_,ho,hp,rfl,k⟩
theorem ZN(k:K (.val (.bl (decide (j<i)))))(ho:o=some (.int i))(hp:p=some (.int j)):Wg2 gGt o p K:=⟨_,_,_,ho,hp,rfl,k⟩
theorem aac(k:K (.val (.bl (decide (j<=i)))))(ho:o=some (.int i))(hp:p=some (.int j)):Wg2 gGe o p K:=⟨_,_,_,ho,hp,rfl,k⟩
theorem Zd(k:K (.val (.int (i+j))))(ho:o=some (.int i))(hp:p=some (.int j)):Wg2 b_ o p K:=⟨_,_,_,ho,hp,rfl,k⟩
theorem Zw{xs ys:List Dat}(k:K (.new (.lst (xs++ys))))(ho:o=some (.lst xs))(hp:p=some (.lst ys))(h:xs.length+ys.length<=SZ):Wg2 b_ o p K:=⟨_,_,_,ho,hp,by unfold b_;dsimp only;rw[if_pos h],k⟩
theorem Zn(k:K (.val (.int (i-j))))(ho:o=some (.int i))(hp:p=some (.int j)):Wg2 vf o p K:=⟨_,_,_,ho,hp,rfl,k⟩
theorem ZI(k:K (.val (.int (i*j))))(ho:o=some (.int i))(hp:p=some (.int j))(h:(-B64<i/\i<B64)\/(-B64<j/\j<B64)):Wg2 l0 o p K:=⟨_,_,_,ho,hp,by unfold l0;dsimp only;rw[if_pos h],k⟩
theorem Z5(k:K (.val (.int (i / j))))(ho:o=some (.int i))(hp:p=some (.int j))(h:0<j/\j<tw):Wg2 C0 o p K:=⟨_,_,_,ho,hp,by unfold C0;dsimp only;rw[if_pos h],k⟩
theorem ZG(k:K (.val (.int (i % j))))(ho:o=some (.int i))(hp:p=some (.int j))(h:0<j):Wg2 tE o p K:=⟨_,_,_,ho,hp,by unfold tE;dsimp only;rw[if_pos h],k⟩
theorem ZQ{i j z:Int}(k:K (.val (.int z)))(ho:o=some (.int i))(hp:p=some (.int j))(h:0<=j/\j<=1000000/\i.natAbs<1000000)(hz:i ^ j.toNat=z):Wg2 Bb o p K:=⟨_,_,_,ho,hp,by unfold Bb;dsimp only;rw[if_pos h,hz],k⟩
theorem Y5{d e:Dat}{v:Dat}(k:K (.val v))(ho:o=some d)(hp:p=some e)(h:gIx d e=some (.val v)):Wg2 gIx o p K:=⟨_,_,_,ho,hp,h,k⟩
theorem wC(I_:α->Dat)(xs:List α)(i:Int)(h0:0<=i)(h1:i<xs.length):atI (xs.map I_) i=some (I_ (xs[i.toNat]'(by omega))):=by unfold atI ixN;rw[Pa,if_pos h0,if_pos h1];show (xs.map I_)[i.toNat]?=_;rw[VH,V2 (by lia)];rfl
theorem aaq{I_:α->Dat}{xs:List α}{i:Int}(h0:0<=i)(h1:i<xs.length)(k:K (.val (I_ (xs[i.toNat]'(by lia)))))(ho:o=some (.lst (xs.map I_)))(hp:p=some (.int i)):Wg2 gIx o p K:=
 ⟨_,_,_,ho,hp,by unfold gIx;dsimp only;rw[wC I_ xs i h0 h1];rfl,k⟩
theorem LP(i:Int)(xs:List Int):inD (.int i) (xs.map Dat.int)=decide (i∈xs):=by
 induction xs with
 |nil=>rfl
 |cons x xs ih=>
  have ih':(xs.map Dat.int).any (fun y=>eqD y (.int i))=decide (i∈xs):=ih;unfold inD;rw[gV,WD,ih'];show ((x == i)||_)=_;by_cases h:x=i
  ·simp[h]
  ·have h':¬i=x:=fun z=>h z.symm;simp[h,h']
theorem P_(xs:List Int):(xs.map Dat.int).all (okD 7)=true:=by rw[Wv];intro d hd;obtain⟨x,_,rfl⟩:=VE.mp hd;rfl
theorem aar{i:Int}{xs:List Int}(k:K (.val (.bl (decide (i∈xs)))))(ho:o=some (.int i))(hp:p=some (.tup (xs.map Dat.int))):Wg2 gIn o p K:=
 ⟨_,_,_,ho,hp,by unfold gIn;dsimp only;rw[show okD 8 (.int i)=true from rfl,P_,LP];rfl,k⟩
theorem ZS{i a b:Int}(k:K (.val (.bl (decide (i=a\/i=b)))))(ho:o=some (.int i))(hp:p=some (.tup [.int a,.int b])):Wg2 gIn o p K:=
 aar (xs:=[a,b]) (by have:(i∈[a,b])=(i=a\/i=b):=(by simp);simp only[this];exact k) ho hp
theorem Z7{i:Int}(k:K (.val (.bl (iF ks vs i).isSome)))(ho:o=some (.int i))(hp:p=some (.dct ks vs)):Wg2 HW o p K:=⟨_,_,_,ho,hp,rfl,k⟩
theorem Z0{i:Int}(k:K (.val (.bl (!(iF ks vs i).isSome))))(ho:o=some (.int i))(hp:p=some (.dct ks vs)):Wg2 zj o p K:=⟨_,_,_,ho,hp,rfl,k⟩
theorem ZX{i:Int}(h:iF ks vs i=some d)(k:K (.val d))(ho:o=some (.dct ks vs))(hp:p=some (.int i)):Wg2 gDx o p K:=⟨_,_,_,ho,hp,by unfold gDx;dsimp only;rw[h];rfl,k⟩
theorem ZU{o:Option (List Dat)}(k:K (.val (.int (if j<i then j else i))))(ho:o=some [.int i,.int j]):WB zd o K:=⟨_,_,ho,rfl,k⟩
theorem ZP{o:Option (List Dat)}(k:K (.val (.int (if j>i then j else i))))(ho:o=some [.int i,.int j]):WB ze o K:=⟨_,_,ho,rfl,k⟩
theorem Zc{o:Option Dat}(k:K v)(ho:o=some d)(h:g d=some v):Wg1 g o K:=⟨_,_,ho,h,k⟩
theorem jF{xs:List Dat}{Q:List Dat->Prop}(q:Q xs):∃ds,IX (.lst xs)=some ds/\Q ds:=⟨_,rfl,q⟩
theorem ndT{p:Prop}[Decidable p](h:(!decide p)=true):¬p:=by intro z;rw[decide_eq_true z]at h;cases h
theorem ndF{p:Prop}[Decidable p](h:(!decide p)=false):p:=Decidable.byContradiction fun z=>by rw[decide_eq_false z]at h;cases h
theorem SO(I_:α->Dat)(xs:List α)(h:∀x,okD 7 (I_ x)=true):okD 8 (.lst (xs.map I_))=true:=by unfold okD;rw[Wv];intro d hd;obtain⟨x,_,rfl⟩:=VE.mp hd;exact h x
theorem aak{I_:α->Dat}{xs:List α}{o:Option (List Dat)}(k:K (.val (.int xs.length)))(ho:o=some [.lst (xs.map I_)]):WB yJ o K:=⟨_,_,ho,by unfold yJ;dsimp only;rw[Pa],k⟩
theorem aas{s:FS}{N N':Env->Prop}(h:Ws s ρ N' R B C)(k:∀ρ',N' ρ'->N ρ'):Ws s ρ N R B C:=by
 obtain⟨o,h1,h2⟩:=h;cases o with
 |nx ρ1=>exact⟨.nx ρ1,h1,k _ h2⟩
 |ret r ρ1=>exact⟨.ret r ρ1,h1,h2⟩
 |bk ρ1=>exact⟨.bk ρ1,h1,h2⟩
 |ct ρ1=>exact⟨.ct ρ1,h1,h2⟩
theorem xH{i:Nat}{W:Prop}(h:ρ[i]?=some (.ow d))(w:W):(∃d0,ρ[i]?=some (.ow d0))/\W:=⟨⟨d,h⟩,w⟩
theorem aah{a b:FE}(h:We a ρ fun v ρ1=>jl v fun i=>We b ρ1 fun x ρ2=>Wk ρ2 x fun d ρ3=>Q (.new (.dct [i] [d])) ρ3):We (eD1 a b) ρ Q:=by obtain⟨v,ρ1,h1,i,rfl,x,ρ2,h2,d,ρ3,h3,q⟩:=h;exact⟨_,_,by unfold eD1;rw[h1];dsimp only;rw[h2];dsimp only;rw[h3],q⟩
theorem jG{ρ ρ1 ρ2:Env}{W:Env->Prop}(h:bd d ρ=some ρ1)(hn:ρ1=ρ2)(w:W ρ2):∃ρ1,bd d ρ=some ρ1/\W ρ1:=⟨ρ1,h,hn▸w⟩
theorem aaf{xs:List Dat}{o:Option (List Dat)}(k:K (.val (.tup xs)))(ho:o=some [.lst xs]):WB tG o K:=⟨_,_,ho,rfl,k⟩
noncomputable def ltI(a b:Int):Bool:=decide (a<b)
theorem DB(ns:List Int):jA (ns.map Dat.int)=some ns:=by
 induction ns with
 |nil=>rfl
 |cons m ms ih=>rw[gV,jA,ih];rfl
theorem aag{ns:List Int}{o:Option (List Dat)}(k:K (.new (.lst ((rG ltI ns).map Dat.int))))(ho:o=some [.lst (ns.map Dat.int)])(h:ns.length<=100000):WB kM o K:=⟨_,_,ho,by unfold kM;dsimp only;rw[Pa,if_pos h,DB];rfl,k⟩
theorem aav{i:Nat}(h:We e ρ fun x ρ1=>∃es ds ρ3,pk ρ1 x=some (.lst es)/\ρ1[i]?=some (.ow (.lst ds))/\ρ1.set i (.ow (.lst (ds++es)))=ρ3/\N ρ3/\ds.length+es.length<=SZ)(h0:ρ[i]?=some (.ow (.lst ds0))):Ws (F7 i e) ρ N R B C:=by obtain⟨x,ρ1,h1,es,ds,ρ3,h2,h3,h5,n,h4⟩:=h;exact⟨.nx _,by unfold F7;rw[h0];dsimp only;rw[h1];dsimp only;rw[h2];dsimp only;rw[h3];dsimp only;rw[if_pos h4,h5],n⟩
theorem ZW{t:FT}{body:FS}{N:Env->Prop}{R:RV->Env->Prop}{B C:Env->Prop}(I:Nat->Env->Prop)
  (hs:∀k ρ,I k ρ->Wt t ρ fun c ρ1=>Wif c (Ws body ρ1 (fun ρ2=>∃k',k'<k/\I k' ρ2) R N (fun ρ2=>∃k',k'<k/\I k' ρ2)) (N ρ1)):∀(n k:Nat) (ρ:Env),k<n->I k ρ->Ws (whD t body n) ρ N R B C
 |0,k,_,h,_=>absurd h (Nat.not_lt_zero k)
 |n+1,k,ρ,h,i=>by
  obtain⟨c,ρ1,h1,h2,h3⟩:=hs k ρ i;cases c with
  |false=>exact⟨.nx _,by rw[whD,h1],h3 rfl⟩
  |true=>
   obtain⟨o,h4,h5⟩:=h2 rfl;cases o with
   |nx ρ2=>obtain⟨k',hk,i'⟩:=h5;obtain⟨o,h6,h7⟩:=ZW (N:=N) (R:=R) (B:=B) (C:=C) I hs n k' ρ2 (by lia) i';exact⟨o,by rw[whD,h1];dsimp only;rw[h4];exact h6,h7⟩
   |ct ρ2=>obtain⟨k',hk,i'⟩:=h5;obtain⟨o,h6,h7⟩:=ZW (N:=N) (R:=R) (B:=B) (C:=C) I hs n k' ρ2 (by lia) i';exact⟨o,by rw[whD,h1];dsimp only;rw[h4];exact h6,h7⟩
   |bk ρ2=>exact⟨.nx _,by rw[whD,h1];dsimp only;rw[h4],h5⟩
   |ret r ρ2=>exact⟨.ret _ _,by rw[whD,h1];dsimp only;rw[h4],h5⟩
theorem aat(k:K (.val (.bl (!isN d))))(ho:o=some d)(hp:p=some .non):Wg2 BB o p K:=⟨_,_,_,ho,hp,by cases d<;>rfl,k⟩
theorem ZF(J:Env->Prop)(h1:Ws s ρ J R B C)(h2:∀ρ',J ρ'->Ws u ρ' N R B C):Ws (aR s u) ρ N R B C:=YV (aas h1 h2)
def WrM(o:Option (RV×Dat))(P:RV->Dat->Prop):Prop:=∃z d,o=some (z,d)/\P z d
theorem Z2{r:List Dat}{P:RV->Dat->Prop}(b:Ws body ρ (fun ρ'=>∃d',ρ'[0]?=some (.ow d')/\P (.val .non) d') (fun z ρ'=>∃d',ρ'[0]?=some (.ow d')/\P z d') (fun _=>False) (fun _=>False))(hρ:Cell.ow d::(r.map Cell.sh++Dp m .un)=ρ)(h:(d::r).length=n):WrM (fnM n m body (d::r)) P:=by
 obtain⟨o,h1,h2⟩:=b;cases o with
 |nx ρ1=>obtain⟨d',h3,h4⟩:=h2;exact⟨_,_,by unfold fnM;rw[if_pos h];dsimp only;rw[hρ,h1];dsimp only;rw[h3],h4⟩
 |ret z ρ1=>obtain⟨d',h3,h4⟩:=h2;exact⟨_,_,by unfold fnM;rw[if_pos h];dsimp only;rw[hρ,h1];dsimp only;rw[h3],h4⟩
 |bk ρ1=>exact h2.elim
 |ct ρ1=>exact h2.elim
def WFm(f:List Dat->Option (RV×Dat))(j:Nat)(ρ1:Env)(xs:List Val)(Q:Val->Env->Prop):Prop:=
 ∃d1 ds ρ2 d v d',ρ1[j]?=some (.ow d1)/\tks ρ1 xs=some (ds,ρ2)/\ρ2[j]?=some (.ow d)/\f (d::ds)=some (v,d')/\(if (flat v.dat&&C5 d')=true then Q v.cu (ρ1.set j (.ow d')) else Q v.cu (ρ2.set j (.ow d')))
theorem Z_{f:List Dat->Option (RV×Dat)}{j:Nat}{d0:Dat}(h:Was as ρ fun xs ρ1=>WFm f j ρ1 xs Q)(h0:ρ[j]?=some (.ow d0)):We (eFm f j as) ρ Q:=by
 obtain⟨xs,ρ1,h1,d1,ds,ρ2,d,v,d',h2,h3,h4,h5,q⟩:=h;by_cases c:(flat v.dat&&C5 d')=true
 ·rw[if_pos c]at q;exact⟨_,_,by unfold eFm;rw[h0];dsimp only;rw[h1];dsimp only;rw[h2];dsimp only;rw[h3];dsimp only;rw[h4];dsimp only;rw[h5];dsimp only;rw[if_pos c],q⟩
 ·rw[if_neg c]at q;exact⟨_,_,by unfold eFm;rw[h0];dsimp only;rw[h1];dsimp only;rw[h2];dsimp only;rw[h3];dsimp only;rw[h4];dsimp only;rw[h5];dsimp only;rw[if_neg c],q⟩
theorem ZT{f:List Dat->Option (RV×Dat)}{j:Nat}{ρ1 ρ3:Env}{d d':Dat}(h5:f (d::ds)=some (v,d'))(q:Q v.cu ρ3)(h2:ρ1[j]?=some (.ow d))(h3:tks ρ1 xs=some (ds,ρ1))(hn:ρ1.set j (.ow d')=ρ3):WFm f j ρ1 xs Q:=
 ⟨_,_,_,_,_,_,h2,h3,h2,h5,by rw[hn];split<;>exact q⟩
theorem aaE(h:Was as ρ fun xs ρ1=>∃ds ρ2 v,Df ρ1 xs=some (ds,ρ2)/\f ds=some v/\bu v.dat=true/\Q v.cu ρ2):We (eFd f as) ρ Q:=by obtain⟨xs,ρ1,h1,ds,ρ2,v,h2,h3,h4,q⟩:=h;exact⟨_,_,by unfold eFd;rw[h1];dsimp only;rw[h2];dsimp only;rw[h3];dsimp only;rw[if_pos h4],q⟩
theorem oF:∀(xs:List Dat),(∀x∈xs,bu x=true)->jM xs=true
 |[],_=>by unfold jM;rfl
 |x::xs,h=>by unfold jM;rw[h x PU,oF xs fun y hy=>h y (Ds _ hy)];rfl
theorem oG(I_:α->Dat)(xs:List α)(h:∀x,bu (I_ x)=true):bu (.lst (xs.map I_))=true:=by unfold bu;exact oF _ fun d hd=>by obtain⟨x,_,rfl⟩:=VE.mp hd;exact h x
theorem tW(i:Int):bu (.int i)=true:=by unfold bu;rfl
theorem ZE{ρ ρ1:Env}(h:Wi it ρ fun x y=>x=ds/\y=ρ1):it ρ=some (ds,ρ1):=by obtain⟨_,_,h1,rfl,rfl⟩:=h;exact h1
end
end Dm
namespace Fl
structure Tie where
 m:Int
 a:Int
 b:Int
deriving Inhabited
noncomputable def one(b:Bool):Int:=if b then 1 else 0
noncomputable abbrev Hd:=Int->Option Int
noncomputable def put(H:Hd)(m:Int)(o:Option Int):Hd:=fun x=>if x=m then o else H x
noncomputable def mF(H:Hd)(m q:Int):Hd:=put H m (if (H m).isSome then none else some q)
noncomputable abbrev Step:=Int×Int
def Way(R:Int->Step->Prop):Int->List Step->Int->Prop
 |x,[],y=>x=y
 |x,s::w,y=>R x s/\Way R s.2 w y
theorem Way.snoc{R:Int->Step->Prop}:∀{w:List Step} {x y:Int} {s:Step},Way R x w y->R y s->Way R x (w++[s]) s.2
 |[],_,_,_,h,k=>by cases h;exact⟨k,rfl⟩
 |_::_,_,_,_,h,k=>⟨h.1,Way.snoc h.2 k⟩
theorem Way.mono{R R':Int->Step->Prop}(h:∀p s,R p s->R' p s):∀{w:List Step} {x y:Int},Way R x w y->Way R' x w y
 |[],_,_,k=>k
 |_::_,_,_,k=>⟨h _ _ k.1,Way.mono h k.2⟩
noncomputable def uX(H:Hd):List Step->Hd
 |[]=>H
 |s::w=>uX (mF H s.1 s.2) w
theorem B3{H:Hd}{m q x:Int}(h:x≠m):mF H m q x=H x:=by unfold mF put;rw[if_neg h]
noncomputable def ku(H:Hd):List Step->Hd
 |[]=>H
 |s::w=>ku (put H s.1 none) w
theorem mG:∀{w:List Step} {H:Hd} {x:Int},(∀u∈w,u.1≠x)->ku H w x=H x
 |[],_,_,_=>rfl
 |s::w,H,x,h=>by rw[ku,mG fun u hu=>h u (Ds _ hu)];unfold put;rw[if_neg fun e=>h s PU e.symm]
theorem pI:∀{w:List Step} {H:Hd} {x:Int},x∈w.map (·.1)->ku H w x=none
 |[],_,_,h=>by cases h
 |s::w,H,x,h=>by
  rw[ku];by_cases e:x∈w.map (·.1)
  ·exact pI e
  ·rw[mG fun u hu z=>e (VE.mpr ⟨u,hu,z⟩)];rw[gV]at h;rcases Vq.mp h with rfl | h
   ·unfold put;rw[if_pos rfl]
   ·exact absurd h e
end Fl
namespace Fd
open Fl
section
variable{r:List Int}{s:Step}{S:Int->Bool}{w:List Step}{R:Int->Step->Prop}{p:Int}{a b:Int}{k:Nat}
noncomputable def src(c:Int):Int:=c / 20
noncomputable def dst(c:Int):Int:=c % 20
noncomputable def vd(o:Option Int)(c:Int)(S:Int->Bool):Int:=if o.isSome then one (S (src c))-one (S (dst c)) else 0
noncomputable def gD(r:List Int)(H:Hd)(S:Int->Bool):Int:=match r with
 |[]=>0
 |c::r=>vd (H c) c S+gD r H S
theorem Ge{H H':Hd}(h:∀c∈r,H c=H' c):gD r H S=gD r H' S:=by
 induction r with
 |nil=>rfl
 |cons c r ih=>rw[gD,gD,h c PU,ih fun u hu=>h u (Ds _ hu)]
theorem mH(nd:r.Nodup){c:Int}(hc:c∈r)(H:Hd)(o:Option Int)(S:Int->Bool):gD r (put H c o) S=gD r H S-vd (H c) c S+vd o c S:=by
 induction r with
 |nil=>cases hc
 |cons d r ih=>
  rw[VI]at nd;rcases Vq.mp hc with rfl | h
  ·rw[gD,gD,Ge (H:=put H c o) (H':=H) fun u hu=>by unfold put;rw[if_neg (fun e:u=c=>nd.1 (e▸hu))]];have:put H c o c=o:=by unfold put;rw[if_pos rfl]
   rw[this]
   lia
  ·rw[gD,gD,ih nd.2 h];have:put H c o d=H d:=by unfold put;rw[if_neg (fun e:d=c=>nd.1 (e▸h))]
   rw[this]
   lia
def zE(r:List Int)(p:Int)(s:Step):Prop:=s.1∈r/\((src s.1=p/\dst s.1=s.2)\/(dst s.1=p/\src s.1=s.2))
def rL(r:List Int)(H:Hd)(p:Int)(s:Step):Prop:=s.1∈r/\((H s.1=none/\src s.1=p/\dst s.1=s.2)\/((H s.1).isSome=true/\dst s.1=p/\src s.1=s.2))
def Led(r:List Int)(H:Hd)(p:Int)(s:Step):Prop:=s.1∈r/\H s.1=some s.2/\src s.1=p/\dst s.1=s.2
def Ok(r:List Int)(H:Hd):Prop:=∀c∈r,∀x,H c=some x->x=dst c
theorem rL.along{H:Hd}(h:rL r H p s):zE r p s:=⟨h.1,h.2.imp (fun x=>x.2) fun x=>x.2⟩
theorem Led.along{H:Hd}(h:Led r H p s):zE r p s:=⟨h.1,.inl h.2.2⟩
theorem tZ(hR:∀p s,R p s->zE r p s){x y:Int}(h:Way R x (s::w) y)(hn:(x::(s::w).map (·.2)).Nodup):∀u∈w,u.1≠s.1:=by
 obtain⟨h1,h2⟩:=h;obtain⟨_,he⟩:=hR _ _ h1;have main:∀(w:List Step) (z:Int),Way R z w y->(∀u∈w,u.2≠x/\u.2≠s.2)->∀u∈w,u.1≠s.1:=fun w=>by
  induction w with
  |nil=>intro z _ _ u hu;cases hu
  |cons v w ih=>
   intro z hw hd u hu;rcases Vq.mp hu with rfl | hu
   ·intro e;obtain⟨_,he'⟩:=hR _ _ hw.1;obtain⟨d1,d2⟩:=hd u PU;rw[e]at he'
    lia
   ·exact ih v.2 hw.2 (fun u hu=>hd u (Ds _ hu)) u hu
 rw[gV,VI,VI]at hn;refine main w s.2 h2 fun u hu=>⟨fun e=>hn.1 ?_,fun e=>hn.2.1 ?_⟩
 ·exact Ds _ (VE.mpr ⟨u,hu,e⟩)
 ·exact VE.mpr ⟨u,hu,e⟩
theorem pJ(hR:∀p s,R p s->zE r p s){y:Int}:∀{w:List Step} {x:Int},Way R x w y->(x::w.map (·.2)).Nodup->(w.map (·.1)).Nodup
 |[],_,_,_=>by simp
 |s::w,x,h,hn=>by rw[gV,VI];refine⟨fun e=>?_,pJ hR h.2 (by rw[gV,VI]at hn;exact hn.2)⟩;obtain⟨u,hu,e⟩:=VE.mp e;exact tZ hR h hn u hu e
theorem DC(nd:r.Nodup){H:Hd}(h:rL r H p s)(S:Int->Bool):gD r (mF H s.1 s.2) S=gD r H S+one (S p)-one (S s.2):=by
 obtain⟨hm,h⟩:=h;unfold mF;rw[mH nd hm];rcases h with⟨e,rfl,e2⟩ | ⟨e,rfl,e2⟩
 ·rw[e,<- e2];simp[vd]
  lia
 ·rw[if_pos e,<- e2];simp[vd,e]
  lia
theorem IZ{H:Hd}(ok:Ok r H)(h:rL r H p s):Ok r (mF H s.1 s.2):=fun c hc x hx=>by
 unfold mF put at hx;by_cases e:c=s.1
 ·rw[if_pos e]at hx;obtain⟨hm,h⟩:=h;rcases h with⟨e1,_,e2⟩ | ⟨e1,_,e2⟩
  ·rw[e1]at hx;simp at hx;rw[e,e2,hx]
  ·rw[if_pos e1]at hx;cases hx
 ·rw[if_neg e]at hx;exact ok c hc x hx
theorem pK(nd:r.Nodup)(S:Int->Bool):∀{w:List Step} {x y:Int} {H:Hd},Ok r H->Way (rL r H) x w y->(x::w.map (·.2)).Nodup ->
  Ok r (uX H w)/\gD r (uX H w) S=gD r H S+one (S x)-one (S y)
 |[],x,y,H,ok,h,_=>by cases h;exact⟨ok,by rw[uX];lia⟩
 |s::w,x,y,H,ok,h,hn=>by
  have hfr:=tZ (fun p s h=>h.along) h hn;obtain⟨hf,h2⟩:=h;have ok1:=IZ ok hf;have f1:=DC nd hf S;have h3:Way (rL r (mF H s.1 s.2)) s.2 w y:=by
   have main:∀(w:List Step) (z:Int),(∀u∈w,u.1≠s.1)->Way (rL r H) z w y->Way (rL r (mF H s.1 s.2)) z w y:=fun w=>by
    induction w with
    |nil=>intro _ _ h;exact h
    |cons u w ih=>intro z hu hw;exact⟨⟨hw.1.1,by rw[B3 (hu u PU)];exact hw.1.2⟩,ih u.2 (fun v hv=>hu v (Ds _ hv)) hw.2⟩
   exact main w s.2 hfr h2
  obtain⟨k1,k2⟩:=pK nd S ok1 h3 (by rw[gV,VI]at hn;exact hn.2);rw[uX];exact⟨k1,by rw[k2,f1];lia⟩
theorem pL(nd:r.Nodup)(S:Int->Bool):∀{w:List Step} {x y:Int} {H:Hd},Ok r H->Way (Led r H) x w y->(x::w.map (·.2)).Nodup ->
  Ok r (ku H w)/\gD r (ku H w) S=gD r H S-one (S x)+one (S y)
 |[],x,y,H,ok,h,_=>by cases h;exact⟨ok,by rw[ku];lia⟩
 |s::w,x,y,H,ok,h,hn=>by
  have hfr:=tZ (fun p s h=>h.along) h hn;obtain⟨⟨hm,hf,e1,e2⟩,h2⟩:=h;have ok1:Ok r (put H s.1 none):=fun u hu z hz=>by
   unfold put at hz;split at hz
   ·cases hz
   ·exact ok u hu z hz
  have f1:=mH nd hm H none S;rw[hf]at f1;simp only[vd,Option.isSome_none,Yc,V3,if_false,if_true,e1,e2]at f1;have h3:Way (Led r (put H s.1 none)) s.2 w y:=by
   have main:∀(w:List Step) (z:Int),(∀u∈w,u.1≠s.1)->Way (Led r H) z w y->Way (Led r (put H s.1 none)) z w y:=fun w=>by
    induction w with
    |nil=>intro _ _ h;exact h
    |cons u w ih=>intro z hu hw;exact⟨⟨hw.1.1,by unfold put;rw[if_neg (hu u PU)];exact hw.1.2⟩,ih u.2 (fun v hv=>hu v (Ds _ hv)) hw.2⟩
   exact main w s.2 hfr h2
  obtain⟨k1,k2⟩:=pL nd S ok1 h3 (by rw[gV,VI]at hn;exact hn.2);rw[ku];exact⟨k1,by rw[k2,f1];lia⟩
theorem I0{H:Hd}(ok:Ok r H)(hc:∀p s,S p=true->Led r H p s->S s.2=true):gD r H S<=0:=by
 have main:∀(q:List Int),(∀t∈q,t∈r)->gD q H S<=0:=fun q=>by
  induction q with
  |nil=>intro _;exact Int.le_refl _
  |cons c q ih=>
   intro hq;rw[gD];have h1:=ih fun u hu=>hq u (Ds _ hu);have hv:vd (H c) c S<=0:=by
    unfold vd;cases e:H c with
    |none=>exact Int.le_refl _
    |some x=>
     have hx:=ok c (hq c PU) x e;rw[if_pos (show (some x).isSome=true from rfl)];cases hp:S (src c) with
     |false=>cases S (dst c)<;>decide
     |true=>have:=hc (src c) (c,x) hp ⟨hq c PU,e,rfl,hx.symm⟩;rw[hx]at this;rw[this];decide
   lia
 exact main r fun _ h=>h
structure Flow(r:List Int)(H:Hd)(a b:Int)(k:Nat):Prop where
 ok:Ok r H
 eq:∀S,gD r H S=(k:Int)*(one (S a)-one (S b))
theorem Flow.zero(r:List Int)(a b:Int):Flow r (fun _=>none) a b 0:=⟨fun _ _ _ h=>(by cases h),fun S=>by
 induction r with
 |nil=>simp[gD]
 |cons t r ih=>rw[gD,ih];simp[vd]⟩
theorem Flow.more(nd:r.Nodup){H:Hd}(f:Flow r H a b k)(h:Way (rL r H) a w b)(hn:(a::w.map (·.2)).Nodup):Flow r (uX H w) a b (k+1):=
 ⟨(pK nd (fun _=>true) f.ok h hn).1,fun S=>by
  rw[(pK nd S f.ok h hn).2,f.eq S];have:((k+1:Nat):Int)=(k:Int)+1:=by lia
  rw[this,Int.add_mul]
  lia⟩
theorem Flow.less(nd:r.Nodup){H:Hd}(f:Flow r H a b (k+1))(h:Way (Led r H) a w b)(hn:(a::w.map (·.2)).Nodup):Flow r (ku H w) a b k:=
 ⟨(pL nd (fun _=>true) f.ok h hn).1,fun S=>by
  rw[(pL nd S f.ok h hn).2,f.eq S];have:((k+1:Nat):Int)=(k:Int)+1:=by lia
  rw[this,Int.add_mul]
  lia⟩
theorem Flow.reach{H:Hd}(f:Flow r H a b (k+1))(ha:S a=true)(hc:∀p s,S p=true->Led r H p s->S s.2=true):S b=true:=by
 cases hb:S b with
 |true=>rfl
 |false=>
  have h1:=I0 f.ok hc;rw[f.eq S,ha,hb]at h1;simp[one]at h1
  lia
end
end Fd
namespace Dm
section
variable{ks:List (Int×Int)}{vs:List Dat}{Q:Val->Env->Prop}{K:RV->Prop}{o:Option (List Dat)}{ρ:Env}{d:Dat}{N:Env->Prop}{p:Int×Int}{i:Nat}
theorem aad(q:Q (.new (.dcp [] [])) ρ):We IF ρ Q:=⟨_,_,rfl,q⟩
theorem aaa{j e:FE}{R:RV->Env->Prop}{B C:Env->Prop}(h:We e ρ fun x ρ1=>Wk ρ1 x fun d ρ2=>(∃d0,ρ2[i]?=some (.ow d0))/\We j ρ2 fun y ρ3=>∃p q ks vs ρ4,y=.val (.tup [.int p,.int q])/\ρ3[i]?=some (.ow (.dcp ks vs))/\ρ3.set i (.ow (.dcp (ja ks (p,q)) (jN ks vs (p,q) d)))=ρ4/\N ρ4/\ks.length<SZ):Ws (mz i j e) ρ N R B C:=by obtain⟨x,ρ1,h1,d,ρ2,h2,⟨d0,h0⟩,y,ρ3,h3,p,q,ks,vs,ρ4,rfl,h4,h5,n,h6⟩:=h;exact⟨.nx _,by unfold mz;rw[h1];dsimp only;rw[h2];dsimp only;rw[h0];dsimp only;rw[h3];dsimp only;rw[h4];dsimp only;rw[if_pos h6,h5],n⟩
theorem xJ{p q:Int}{ρ3 ρ4:Env}{y:Val}(n:N ρ4)(hy:y=.val (.tup [.int p,.int q]))(h:ρ3[i]?=some (.ow (.dcp ks vs)))(hs:ρ3.set i (.ow (.dcp (ja ks (p,q)) (jN ks vs (p,q) d)))=ρ4)(hl:ks.length<SZ) :
  ∃p q ks vs ρ4,y=.val (.tup [.int p,.int q])/\ρ3[i]?=some (.ow (.dcp ks vs))/\ρ3.set i (.ow (.dcp (ja ks (p,q)) (jN ks vs (p,q) d)))=ρ4/\N ρ4/\ks.length<SZ:=⟨_,_,_,_,_,hy,h,hs,n,hl⟩
theorem aap{i j:Int}{o p:Option Dat}(h:jD ks vs (i,j)=some d)(k:K (.val d))(ho:o=some (.dcp ks vs))(hp:p=some (.tup [.int i,.int j])):Wg2 BV o p K:=⟨_,_,_,ho,hp,by unfold BV;dsimp only;rw[h];rfl,k⟩
theorem aaF(k:K (.new (.lst (ks.map pairD))))(ho:o=some [.dcp ks vs])(hl:ks.length<=SZ):WB jO o K:=⟨_,_,ho,by unfold jO;dsimp only;rw[if_pos hl],k⟩
theorem LQ(h:p∉ks):xF ks p=false:=by unfold xF;rw[List.any_eq_false];intro k hk e;exact h ((of_decide_eq_true e)▸hk)
theorem B4(h:p∉ks):ja ks p=ks++[p]/\jN ks vs p d=vs++[d]:=by unfold ja jN;rw[LQ h];exact⟨rfl,rfl⟩
theorem aaA{a b:FE}(h:We a ρ fun x ρ1=>(∃ks vs,pk ρ1 x=some (.dcp ks vs))/\We b ρ1 fun y ρ2=>∃ks vs i j,pk ρ2 x=some (.dcp ks vs)/\pk ρ2 y=some (.tup [.int i,.int j])/\Q (.val ((jD ks vs (i,j)).getD .non)) ρ2):We (tS a b) ρ Q:=by obtain⟨x,ρ1,h1,⟨ks,vs,h2⟩,y,ρ2,h3,ks',vs',i,j,h4,h5,q⟩:=h;exact⟨_,_,by unfold tS;rw[h1];dsimp only;rw[h2];dsimp only;rw[h3];dsimp only;rw[h4];dsimp only;rw[h5],q⟩
theorem aan{e:FE}{ρ ρ2:Env}{p q:Int}(hl:jD ks vs (p,q)=some d)(k:Q (.val d) ρ2)(h:ρ[i]?=some (.ow (.dcp ks vs)))(he:e ρ=some (.val (.tup [.int p,.int q]),ρ))(hs:ρ.set i (.ow (.dcp (jk ks vs (p,q)) (jE ks vs (p,q))))=ρ2):We (pG i e) ρ Q:=⟨_,_,by unfold pG;rw[h];dsimp only;rw[he];dsimp only;rw[h];dsimp only;rw[hl];dsimp only;rw[hs],k⟩
theorem aaB(k:K (.new (.dcp ks vs)))(ho:o=some [.dcp ks vs])(h:mD ks=true):WB tT o K:=⟨_,_,ho,by unfold tT;dsimp only;rw[if_pos h],k⟩
theorem ZY{i j:Int}{o p:Option Dat}(k:K (.val (.bl (jD ks vs (i,j)).isSome)))(ho:o=some (.tup [.int i,.int j]))(hp:p=some (.dcp ks vs)):Wg2 o6 o p K:=⟨_,_,_,ho,hp,rfl,k⟩
theorem Zz{f:List Dat->Option RV}{as:List FE}(h:Was as ρ fun xs ρ1=>∃ds ρ2 v,Du ρ1 xs=some (ds,ρ2)/\f ds=some v/\bu v.dat=true/\Q v.cu ρ2):We (tU f as) ρ Q:=by obtain⟨xs,ρ1,h1,ds,ρ2,v,h2,h3,h4,q⟩:=h;exact⟨_,_,by unfold tU;rw[h1];dsimp only;rw[h2];dsimp only;rw[h3];dsimp only;rw[if_pos h4],q⟩
end
end Dm
namespace P
open Dm
noncomputable def Ja:List Dat->Option RV:=fn 2 0
  (sR (bQ 0 1 (bN 2) iE (bQ 2 1 (bN 3) (tV (e2 gEq (tS (eV 1) (e2 gIx (eV 3) (eC (.int 0)))) (e2 gIx (eV 3) (eC (.int 1))))) (eV 3))))
noncomputable def Nn:FS:=
  (sIf (tV (e2 zj (e2 gIx (eV 5) (eC (.int 1))) (eV 2))) (aR (zk 2 (e2 gIx (eV 5) (eC (.int 1))) (e2 b_ (e2 gDx (eV 2) (eV 4)) (jz [(eV 5)])))
  (Ba 3 (e2 gIx (eV 5) (eC (.int 1))))) sNx)
noncomputable def Np:FS:=
  (aR (sA 4 (tP 3 (eC (.int 0))))
  (tu (iS (e2 gIx (eV 0) (eV 4))) (bN 5)
  Nn))
noncomputable def xK:List Dat->Option RV:=fn 2 4
  (aR (sA 2 (eD1 (eV 1) (jz [])))
  (aR (sA 3 (jz [(eV 1)]))
  (aR (whD (tTr (eV 3))
  Np 100)
  (sR (eV 2)))))
noncomputable def Nq:FS:=
  (sIf (tV (e2 o6 (eV 2) (eV 0))) (sE (pG 0 (eV 2))) (mz 0 (eV 2) (eV 3)))
noncomputable def Jb:List Dat->Option (RV×Dat):=fnM 2 2
  (tu (iS (eV 1)) (bT [2,3])
  Nq)
noncomputable def Nr:FS:=
  (sE (pG 5 (eV 9)))
noncomputable def Nt:FS:=
  (aR (sA 8 (gy (iS (e2 gDx (eF xK [(tU Ja [(eV 0),(eV 5)]),(eV 2)]) (eV 3))) 1 (bN 10) iE (e2 gIx (eV 10) (eC (.int 0)))))
  (aR (tu (iS (eV 8)) (bN 9)
  Nr)
  (Ba 6 (eV 8))))
noncomputable def Gf:List Dat->Option RV:=fn 5 5
  (aR (sA 5 (eB tT [(eV 1)]))
  (aR (sA 6 (jz []))
  (aR (tu (iR1 (eV 4)) (bN 7)
  Nt)
  (sR (eV 6)))))
noncomputable def Jc:List Dat->Option RV:=fn 1 0
  (sR (vh (e1 (Ho isI) (eV 0)) (FG (e1 (Ho isB) (eV 0)))))
noncomputable def B5:List Dat->Option RV:=fn 3 0
  (sR (vh (eF Jc [(eV 0)]) (o9 gLe gLe (eV 1) (eV 0) (eV 2))))
noncomputable def rM:List Dat->Option RV:=fn 2 0
  (sR (eF B5 [(eV 1),(eC (.int 0)),(e2 vf (eV 0) (eC (.int 1)))]))
noncomputable def lS:List Dat->Option RV:=fn 3 0
  (sR (vh (eF rM [(eV 0),(eV 1)]) (vh (eF rM [(eV 0),(eV 2)]) (e2 gNe (eV 1) (eV 2)))))
noncomputable def Jd:List Dat->Option RV:=fn 3 0
  (sIf (sV (tV (eF lS [(eV 0),(eV 1),(eV 2)]))) (fun _=>none) sNx)
noncomputable def cz:List Dat->Bool:=fnX 3 0
  (rIf (sV (tV (eF lS [(eV 0),(eV 1),(eV 2)]))) Sd rNo)
noncomputable def Nu:FS:=
  (sIf (tV (e2 gNe (eV 4) (eV 5))) (aR (mz 2 (jy [(e2 b_ (eV 0) (eV 4)),(eV 5)]) (eV 3))
  (mz 2 (jy [(e2 b_ (eV 0) (eV 5)),(eV 4)]) (eV 3))) sNx)
noncomputable def LR:List Dat->Option RV:=fn 2 4
  (aR (sA 2 IF)
  (aR (tu (iS (eV 1)) (bT [3,4,5])
  Nu)
  (sR (eV 2))))
noncomputable def kQ:FN:=
  (An (e2 gIx (eV 4) (eC (.int 0))) (jy [(eV 4),(e2 gIx (eV 4) (eC (.int 1)))]))
noncomputable def EY:List Dat->Option RV:=fn 2 3
  (aR (lN 2 (iR1 (e2 l0 (eC (.int 2)) (eV 0))) 1 (bN 5) (BH (nA 2 3 (gy (iR1 (eV 0)) 1 (bN 5) iE (jy [(eV 5),(e2 b_ (eV 0) (eV 5))])))
  (rH (iS (e2 b_ (eB jO [(eV 1)]) (eV 3))) (bN 4)
  kQ)))
  (sR (eV 2)))
noncomputable def pM:FN:=
  (nIf (tV (e2 o6 (eV 5) (eV 1))) (An (eV 6) (jy [(eV 5),(eV 3)])) (An (eV 3) (jy [(eV 5),(eV 6)])))
noncomputable def jP:FN:=
  (rH (iS (eV 4)) (bT [5,6])
  pM)
noncomputable def zF:List Dat->Option RV:=fn 2 5
  (aR (lN 2 (iS (eV 0)) 1 (bN 7) (rH (iEn (eV 0)) (bT [3,4])
  jP))
  (sR (eV 2)))
noncomputable def B6:List Dat->Option RV:=fn 3 0
  (sR (e2 gIx (bQ 1 1 (bN 3) (o7 (tV (e2 gLt (e2 gIx (eV 3) (eC (.int 0))) (eV 0))) (tV (e2 zj (e2 gIx (eV 3) (eC (.int 1))) (eV 2)))) (e2 gIx (eV 3) (eC (.int 0)))) (eC (.int 0))))
noncomputable def Je:FS:=
  (aR (sE (eFm Jb 7 [(e2 gDx (eV 8) (eV 3))]))
  (aR (sA 9 (e2 b_ (eV 9) (eC (.int 1))))
  (sA 8 (eF xK [(tU zF [(eV 6),(eV 7)]),(e2 b_ (eV 0) (eV 2))]))))
noncomputable def B7:List Dat->Option RV:=fn 5 7
  (aR (sA 5 (eF LR [(eV 0),(eV 1)]))
  (aR (sA 6 (tU EY [(eV 0),(eV 5)]))
  (aR (sA 7 IF)
  (aR (sA 8 (eF xK [(tU zF [(eV 6),(eV 7)]),(e2 b_ (eV 0) (eV 2))]))
  (aR (sA 9 (eC (.int 0)))
  (aR (whD (o7 (tV (e2 gLt (eV 9) (eV 4))) (tV (e2 HW (eV 3) (eV 8))))
  Je 100)
  (aR (sA 10 (tU Gf [(eV 6),(eV 7),(e2 b_ (eV 0) (eV 2)),(eV 3),(eV 9)]))
  (aR (sA 11 (bQ 10 1 (bN 12) iE (bQ 12 1 (bN 13) (tV (e2 o6 (eV 13) (eV 5))) (e2 BV (eV 5) (eV 13)))))
  (aR (sIf (tV (e2 gEq (eV 9) (eV 4))) (sR (jy [(eV 11),(eC .non)])) sNx)
  (sR (jy [(eV 11),(eB tG [(eB kM [(bQ 10 1 (bN 12) iE (eFd B6 [(eV 0),(eV 12),(eV 8)]))])])])))))))))))
noncomputable def B8:List Dat->Option RV:=fn 5 4
  (aR (sE (eF Jd [(eV 0),(eV 2),(eV 3)]))
  (aR (sA 5 (bQ 1 1 (bN 9) (o7 (tV (e2 gIn (eV 2) (C7 (eV 9) (some (eC (.int 1))) none))) (tV (e2 gIn (eV 3) (C7 (eV 9) (some (eC (.int 1))) none)))) (eV 9)))
  (aR (sA 6 (bQ 1 1 (bN 9) (tV (e2 tF (eV 9) (eV 5))) (eV 9)))
  (aR (sA 7 (gy (iS (eSl (eV 5) none (some (eV 4)))) 1 (bN 9) iE (jz [(e2 gIx (eV 9) (eC (.int 0)))])))
  (aR (sA 8 (eF B7 [(eV 0),(eV 6),(eV 2),(eV 3),(e2 vf (eV 4) (eB yJ [(eV 7)]))]))
  (aR (F7 7 (e2 gIx (eV 8) (eC (.int 0))))
  (sR (jy [(eB yJ [(eV 7)]),(eV 7),(e2 gIx (eV 8) (eC (.int 1)))]))))))))
noncomputable def c_:List Dat->Bool:=fnX 5 4
  (xy cz [(eV 0),(eV 2),(eV 3)])
noncomputable def B9:List Dat->Option RV:=fn 2 0
  (aR (sIf (tV (e2 gLt (eV 1) (eB yJ [(eV 0)]))) (sR (e2 gIx (eV 0) (eV 1))) sNx)
  (sR (eC (.int 0))))
noncomputable def Jf:FS:=
  (aR (sA 5 (e2 tE (e2 l0 (e2 b_ (e2 b_ (e2 b_ (e2 tE (eV 2) (eC (.int 998244353))) (e2 l0 (e2 l0 (eC (.int 89)) (eV 4)) (eV 4))) (e2 l0 (eC (.int 7)) (eV 1))) (eC (.int 1))) (eC (.int 48271))) (eC (.int 2147483647))))
  (aR (sA 5 (e2 tE (e2 l0 (eV 5) (eV 5)) (eC (.int 1000000007))))
  (aR (sA 5 (e2 tE (e2 l0 (e2 b_ (eV 5) (e2 l0 (eC (.int 7919)) (eV 4))) (eC (.int 69621))) (eC (.int 2147483587))))
  (sA 3 (e2 b_ (e2 l0 (eV 3) (eC (.int 1000003))) (e2 tE (e2 C0 (eV 5) (eC (.int 8))) (eC (.int 1000003))))))))
noncomputable def zG:List Dat->Option RV:=fn 2 4
  (aR (sA 2 (eF B9 [(eV 0),(eV 1)]))
  (aR (sIf (tV (e2 gGe (eV 2) (e2 Bb (eC (.int 10)) (eC (.int 18))))) (sR (jz [(eV 2)])) sNx)
  (aR (sA 3 (eC (.int 0)))
  (aR (tu (iR1 (eC (.int 48))) (bN 4)
  Jf)
  (sR (jz [(eV 3)]))))))
noncomputable def iG:List Dat->Option (RV×Dat):=fnM 2 1
  (aR (sA 2 (e2 tE (e2 gIx (eV 0) (eC (.int 0))) (eV 1)))
  (aR (FH 0 (eC (.int 0)) (e2 C0 (e2 gIx (eV 0) (eC (.int 0))) (eV 1)))
  (sR (eV 2))))
noncomputable def Jg:FS:=
  (aR (sA 8 (eFm iG 0 [(eV 1)]))
  (aR (sA 9 (eFm iG 0 [(eV 1)]))
  (aR (sIf (o7 (tV (e2 gGt (eV 4) (eC (.int 0)))) (tV (e2 gEq (eV 8) (eV 9)))) (sA 9 (e2 tE (e2 b_ (eV 8) (eC (.int 1))) (eV 1))) sNx)
  (aR (sIf (o7 (tV (e2 gGt (eV 7) (eC (.int 0)))) (tV (e2 gEq (eFm iG 0 [(eC (.int 4))]) (eC (.int 0))))) (aR (sA 8 (e2 gIx (e2 gIx (eV 6) (e2 vf (eV 7) (eC (.int 1)))) (eC (.int 1))))
  (sA 9 (e2 gIx (e2 gIx (eV 6) (e2 vf (eV 7) (eC (.int 1)))) (eC (.int 2))))) sNx)
  (aR (Ba 6 (jy [(eV 5),(eB zd [(eV 8),(eV 9)]),(eB ze [(eV 8),(eV 9)])]))
  (sA 5 (e2 b_ (e2 b_ (eV 5) (eC (.int 1))) (e2 l0 (eFm iG 0 [(e2 gIx (jz [(eC (.int 1)),(eC (.int 3)),(eC (.int 1000))]) (eV 4))]) (e2 gIx (jz [(eC (.int 1)),(eC (.int 1)),(e2 Bb (eC (.int 10)) (eC (.int 25)))]) (eV 4))))))))))
noncomputable def B_:List Dat->Option (RV×Dat):=fnM 3 7
  (aR (sA 3 (eFm iG 0 [(e2 b_ (eV 2) (eC (.int 1)))]))
  (aR (sA 4 (eFm iG 0 [(eC (.int 3))]))
  (aR (sA 5 (eFm iG 0 [(eC (.int 4))]))
  (aR (sA 6 (jz []))
  (aR (tu (iR1 (eV 3)) (bN 7)
  Jg)
  (sR (eV 6)))))))
noncomputable def i9(aO aX aP aU bw aY aZ aS bx a_ bz:Nat):List Dat->Option RV:=fn 2 1
  (aR (sA 2 (jz [(e1 (fE [aO,aX,aP,aU,bw,aY,aZ,aS,bx,a_,bz] [true,false,false,false,false,false,false,false,false,false,false]) (eV 0)),(e1 (fE [aO,aX,aP,aU,bw,aY,aZ,aS,bx,a_,bz] [false,true,false,false,false,false,false,false,false,false,false]) (eV 0)),(e1 (fE [aO,aX,aP,aU,bw,aY,aZ,aS,bx,a_,bz] [false,false,true,false,false,false,false,false,false,false,false]) (eV 0))]))
  (aR (sA 2 (e2 b_ (eV 2) (jz [(e1 (fE [aO,aX,aP,aU,bw,aY,aZ,aS,bx,a_,bz] [false,false,false,true,false,false,false,false,false,false,false]) (eV 0)),(e1 (fE [aO,aX,aP,aU,bw,aY,aZ,aS,bx,a_,bz] [false,false,false,false,true,false,false,false,false,false,false]) (eV 0)),(e1 (fE [aO,aX,aP,aU,bw,aY,aZ,aS,bx,a_,bz] [false,false,false,false,false,true,false,false,false,false,false]) (eV 0))])))
  (aR (sA 2 (e2 b_ (eV 2) (jz [(e1 (fE [aO,aX,aP,aU,bw,aY,aZ,aS,bx,a_,bz] [false,false,false,false,false,false,true,false,false,false,false]) (eV 0)),(e1 (fE [aO,aX,aP,aU,bw,aY,aZ,aS,bx,a_,bz] [false,false,false,false,false,false,false,true,false,false,false]) (eV 0)),(e1 (fE [aO,aX,aP,aU,bw,aY,aZ,aS,bx,a_,bz] [false,false,false,false,false,false,false,false,true,false,false]) (eV 0))])))
  (aR (sA 2 (e2 b_ (eV 2) (jz [(e1 (fE [aO,aX,aP,aU,bw,aY,aZ,aS,bx,a_,bz] [false,false,false,false,false,false,false,false,false,true,false]) (eV 0)),(e1 (fE [aO,aX,aP,aU,bw,aY,aZ,aS,bx,a_,bz] [false,false,false,false,false,false,false,false,false,false,true]) (eV 0))])))
  (sR (vh (e2 gEq (eV 2) (gy (iR1 (eC (.int 11))) 1 (bN 3) iE (e2 gEq (eV 3) (eV 1)))) (e1 (fE [aO,aX,aP,aU,bw,aY,aZ,aS,bx,a_,bz] [true,true,true,true,true,true,true,true,true,true,true]) (eV 0))))))))
noncomputable def dc(aO aX aP aU bw aY aZ aS bx a_ bz:Nat):List Dat->Option RV:=fn 4 2
  (aR (sA 4 (eC .non))
  (aR (sUn (sE (eF B8 [(eV 0),(eV 1),(eV 2),(eV 3),(eC (.int 2))])) (zw (xy c_ [(eV 0),(eV 1),(eV 2),(eV 3),(eC (.int 2))]) aU 5 (sA 4 (eV 5))))
  (sR (eV 4))))
noncomputable def DG(aO aX aP aU bw aY aZ aS bx a_ bz:Nat):FS:=
  (aR (sA 1 (eF zG [(eV 0),(eV 3)]))
  (aR (sA 4 (eFm B_ 1 [(eV 2),(eC (.int 6))]))
  (aR (sA 5 (eB Er [(eV 4)]))
  (aR (sA 6 (eFm iG 1 [(eV 2)]))
  (aR (sA 7 (jz [(eV 6),(eV 2),(e1 Hq (eC (.int 1))),(e2 b_ (eV 2) (eFm iG 1 [(e2 Bb (eC (.int 10)) (eC (.int 59)))])),(e2 vf (e1 Hq (eC (.int 1))) (eFm iG 1 [(eC (.int 99))])),(eC (.bl true)),(eC (.bl false)),(eC .non)]))
  (aR (sA 7 (e2 b_ (eV 7) (jz [(eB zC [(eV 6)]),(jz [(eV 6)]),(jy [(eV 6)])])))
  (aR (sA 8 (e2 gIx (eV 7) (eFm iG 1 [(eB yJ [(eV 7)])])))
  (aR (sIf (tOr (sV (tV (eF (i9 aO aX aP aU bw aY aZ aS bx a_ bz) [(eF (dc aO aX aP aU bw aY aZ aS bx a_ bz) [(eV 2),(eV 5),(eV 6),(eV 8)]),(eC (.int 3))]))) (sV (tV (eF (i9 aO aX aP aU bw aY aZ aS bx a_ bz) [(eF (dc aO aX aP aU bw aY aZ aS bx a_ bz) [(eV 2),(eV 5),(eV 8),(eV 6)]),(eC (.int 3))])))) (sR (eC (.bl false))) sNx)
  (sIf (tOr (o7 (tV (e2 gGt (eV 2) (eC (.int 1)))) (tV (e2 BB (eF (dc aO aX aP aU bw aY aZ aS bx a_ bz) [(eV 2),(eV 5),(eV 6),(e2 tE (e2 b_ (eV 6) (eC (.int 1))) (eV 2))]) (eC .non)))) (tV (e2 gNe (eV 5) (eV 4)))) (sR (eC (.bl false))) sNx)))))))))
noncomputable def xM(aO aX aP aU bw aY aZ aS bx a_ bz:Nat):List Dat->Option RV:=fn 1 8
  (aR (sA 1 (eF zG [(eV 0),(eC (.int 0))]))
  (aR (sA 2 (e2 b_ (eC (.int 1)) (eFm iG 1 [(eC (.int 6))])))
  (aR (tu (iR2 (eC (.int 1)) (eB ze [(eC (.int 2)),(eB zd [(eC (.int 9)),(eB yJ [(eV 0)])])])) (bN 3)
  (DG aO aX aP aU bw aY aZ aS bx a_ bz))
  (sR (eC (.bl true))))))
end P
local macro_rules|`(tactic|trivial)=>`(tactic|first | (dsimp only[List.set];first | done | rfl) | rfl)
local macro_rules | `(tactic| array_get_dec)=>`(tactic| first | with_reducible refine Dm.YV ?_ | with_reducible refine Dm.X_ ?_ | ((with_reducible apply Dm.V_);(focus rfl)) | ((with_reducible apply Dm.Y0);(focus rfl)) | with_reducible refine Dm.YW ?_ | (refine Dm.Y3 ?_ (by trivial)) | (refine Dm.YZ ?_ (by trivial)) | (refine Dm.WA.slot ?_ rfl (by trivial)) | with_reducible refine Dm.YX ?_ (by decide) | with_reducible refine Dm.Zo ?_ | with_reducible refine Dm.Y_ ?_ | with_reducible refine Dm.ZD ?_ | with_reducible refine Dm.Zv ?_ | with_reducible refine Dm.Z9 ?_ | with_reducible refine Dm.Z8 ?_ | (refine Dm.YY ?_) | (refine Dm.jl.mk ?_) | with_reducible refine Dm.Zr ?_ | with_reducible refine Dm.Zl ?_ | with_reducible refine Dm.W_ ?_ | with_reducible refine Dm.m_ ?_ | with_reducible refine Dm.Zm ?_ | with_reducible refine Dm.Y8 ?_ | with_reducible refine Dm.Zy ?_ | with_reducible refine Dm.Zj ?_ | with_reducible refine Dm.Ze ?_ | with_reducible refine Dm.We.If ?_ | with_reducible refine Dm.Zf ?_ | with_reducible refine Dm.We.Or ?_ | with_reducible refine Dm.aae ?_ | with_reducible refine Dm.aao ?_ | with_reducible refine Dm.Z1 ?_ | with_reducible refine Dm.Wp.none ?_ | with_reducible refine Dm.Wp.some ?_ | (refine Dm.Wsl.A (I_:=Dat.int) ?_ rfl) | (refine Dm.Wsl.mk ?_ rfl) | (refine Dm.Y7 ?_ rfl (by trivial) (by exact Nat.le_of_ble_eq_true rfl)) | (refine Dm.Y6 ?_) | (refine Dm.Zu ?_) | (refine Dm.Z6 ?_ rfl (by trivial)) | with_reducible refine Dm.We.Dn ?_ | with_reducible refine Dm.aah ?_ | with_reducible refine Dm.aam ?_ | (refine Dm.Vb ?_ rfl) | (refine Dm.xH rfl ?_) | (refine Dm.EV ?_ rfl (by trivial) ?_) | (refine Dm.ZL ?_ rfl) | (refine Dm.Az ?_ rfl (by trivial) ?_) | with_reducible refine Dm.Ws.U ?_ | (refine Dm.UP ?_ rfl (by trivial)) | with_reducible refine Dm.Zb ?_ | (refine Dm.aaz ?_) | (refine Dm.Zs ?_) | (refine Dm.Zq ?_ rfl) | with_reducible refine Dm.Zh ?_ | with_reducible refine Dm.Ws.bk ?_ | with_reducible refine Dm.Ws.ct ?_ | with_reducible refine Dm.ZV ?_ | with_reducible refine Dm.Zp ?_ | with_reducible refine Dm.ZA ?_ | with_reducible refine Dm.Wi.L ?_ | with_reducible refine Dm.ZH ?_ | with_reducible refine Dm.aal ?_ | (refine Dm.jF ?_) | (refine Dm.TV ?_) | (refine Dm.ZC ?_ rfl rfl) | (refine Dm.ZM ?_ rfl rfl) | (refine Dm.Wg2.U6 ?_ rfl rfl ?_) | (refine Dm.Wg2.U7 ?_ rfl rfl ?_) | (refine Dm.Wg2.eqb ?_ rfl rfl) | (refine Dm.Wg2.neb ?_ rfl rfl) | (refine Dm.Wg2.UQ ?_ rfl rfl) | (refine Dm.Wg2.isb ?_ rfl rfl) | (refine Dm.ZZ ?_ rfl rfl) | (refine Dm.Wg2.le ?_ rfl rfl) | (refine Dm.ZN ?_ rfl rfl) | (refine Dm.aac ?_ rfl rfl) | (refine Dm.Zd ?_ rfl rfl) | (refine Dm.Wg2.Vc ?_ rfl rfl ?_) | (refine Dm.Wg2.U8 ?_ rfl rfl ?_) | (refine Dm.Zw ?_ rfl rfl ?_) | (refine Dm.Zn ?_ rfl rfl) | (refine Dm.ZI ?_ rfl rfl (by first | exact Or.inl (by decide) | exact Or.inr (by decide))) | (refine Dm.ZI ?_ rfl rfl ?_) | (refine Dm.Z5 ?_ rfl rfl (by decide)) | (refine Dm.Z5 ?_ rfl rfl ?_) | (refine Dm.ZG ?_ rfl rfl (by decide)) | (refine Dm.ZG ?_ rfl rfl ?_) | (refine Dm.Z7 ?_ rfl rfl) | (refine Dm.Z0 ?_ rfl rfl) | (refine Dm.ZS ?_ rfl rfl) | (refine Dm.Wg2.Vd ?_ rfl rfl) | (refine Dm.Y5 ?_ rfl rfl rfl) | (refine Dm.aak (I_:=Dat.int) ?_ rfl) | (refine Dm.WB.len ?_ rfl) | (refine Dm.WB.Ve ?_ rfl) | (refine Dm.ZU ?_ rfl) | (refine Dm.ZP ?_ rfl) | (refine Dm.WB.list ?_ rfl) | (refine Dm.WB.int ?_ rfl) | (refine Dm.WB.sum2 ?_ rfl ?_) | (refine Dm.Wg1.Vf (I_:=Dat.int) ?_ rfl) | (refine Dm.Zc ?_ rfl rfl))
namespace P
open Dm Fl
section
variable{r:List Int}{h:List (Int×Int)}{R:Int->List Step}{n:Nat}{s:Step}{a:Int}{p:Int}{w:List Step}{A:List Int}{α:Type}{i e:FE}{d:Dat}{c:Int}{x:Int}{y:Int}{k:Int}
theorem LS(ks:List Int)(i:Int):(ks.any fun k=>decide (k=i))=decide (i∈ks):=by
 induction ks with
 |nil=>rfl
 |cons k ks ih=>
  rw[WD,ih];by_cases h:k=i
  ·simp[h]
  ·have h':¬i=k:=fun z=>h z.symm;simp[h,h']
theorem LU{ks:List Int}{vs:List Dat}{i:Int}(h:i∉ks):uT ks i=ks++[i]/\uU ks vs i d=vs++[d]:=by unfold uT uU;rw[LS,decide_eq_false h];exact⟨rfl,rfl⟩
theorem Gg(key:α->Int)(val:α->Dat)(xs:List α)(i:Int):iF (xs.map key) (xs.map val) i=(xs.find? fun x=>decide (key x=i)).map val:=by
 induction xs with
 |nil=>rfl
 |cons x xs ih=>
  rw[gV,gV,iF,Wg];by_cases h:key x=i
  ·simp[h]
  ·simp[h,ih]
theorem kB[DecidableEq α]:∀(l m:List α),l.Nodup->(∀x∈l,x∈m)->l.length<=m.length
 |[],_,_,_=>VN _
 |x::l,m,h,k=>by
  obtain⟨h1,h2⟩:=VI.mp h;have hx:x∈m:=k x PU;have:=kB l (m.erase x) h2 fun y hy=>(List.mem_erase_of_ne (fun e:y=x=>h1 (by rw[<- e];exact hy))).mpr (k y (Ds _ hy));rw[List.length_erase_of_mem hx]at this;have:=List.length_pos_of_mem hx;simp
  lia
noncomputable def places(n:Nat):List Int:=(VO n).map fun i:Nat=>(i:Int)
theorem places_len(n:Nat):(places n).length=n:=by simp[places]
theorem DH(n:Nat)(x:Int):x∈places n↔0<=x/\x<n:=by
 unfold places;rw[VE];constructor
 ·rintro⟨i,hi,rfl⟩;have:=WE.mp hi
  lia
 ·rintro⟨h0,h1⟩;exact⟨x.toNat,WE.mpr (by lia),by lia⟩
noncomputable def stG(lb:Int->Dat)(s:Step):Dat:=.tup [lb s.1,.int s.2]
noncomputable def rwG(lb:Int->Dat)(w:List Step):Dat:=.lst (w.map (stG lb))
noncomputable def rsG(lb:Int->Dat)(n:Nat)(R:Int->List Step):Dat:=.lst ((VO n).map fun i:Nat=>rwG lb (R i))
noncomputable abbrev Sr:=List (Int×List Step)
noncomputable def sk(s:Sr):List Int:=s.map (·.1)
noncomputable def svG(lb:Int->Dat)(s:Sr):List Dat:=s.map fun e=>rwG lb e.2
def InR(R:Int->List Step)(p:Int)(s:Step):Prop:=s∈R p
structure DJ(R:Int->Step->Prop)(a:Int)(w:List Step)(p:Int):Prop where
 way:Way R a w p
 nd:(a::w.map (·.2)).Nodup
structure Fnd(n:Nat)(R:Int->List Step)(a:Int)(s:Sr):Prop where
 nd:(sk s).Nodup
 pl:∀x∈sk s,0<=x/\x<n
 st:a∈sk s
 way:∀e∈s,DJ (InR R) a e.2 e.1/\∀x∈a::e.2.map (·.2),x∈sk s
theorem Fnd.len{s:Sr}(h:Fnd n R a s):s.length<=n:=by
 have:=kB (sk s) (places n) h.nd fun x hx=>(DH n x).mpr (h.pl x hx);rw[places_len]at this
 simpa [sk] using this
theorem Fnd.DK{s:Sr}(h:Fnd n R a s){e:Int×List Step}(he:e∈s):e.2.length<s.length:=by
 obtain⟨h1,h2⟩:=h.way e he;have:=kB (a::e.2.map (·.2)) (sk s) h1.nd h2;simp[sk]at this
 lia
theorem jm(s:Sr)(x:Int)(w:List Step):sk (s++[(x,w)])=sk s++[x]:=by simp[sk]
theorem LV(lb:Int->Dat)(s:Sr)(x:Int)(w:List Step):svG lb (s++[(x,w)])=svG lb s++[rwG lb w]:=by simp[svG]
theorem AA(lb:Int->Dat)(s:Sr)(x:Int):(∃w,(x,w)∈s/\iF (sk s) (svG lb s) x=some (rwG lb w))\/(x∉sk s/\iF (sk s) (svG lb s) x=none):=by
 unfold sk svG;rw[Gg (fun e:Int×List Step=>e.1) (fun e=>rwG lb e.2) s x];cases hf:s.find? fun e=>decide (e.1=x) with
 |none=>refine Or.inr ⟨fun h=>?_,rfl⟩;obtain⟨e,he,hx⟩:=VE.mp h;have:=Yj.mp hf e he;simp[hx]at this
 |some e=>
  have h1:=List.mem_of_find?_eq_some hf;have h2:=List.find?_some hf;have h2:e.1=x:=by simpa using h2
  exact Or.inl ⟨e.2,by rw[<- h2];exact h1,rfl⟩
theorem mJ(lb:Int->Dat)(s:Sr)(x:Int):(iF (sk s) (svG lb s) x).isSome=decide (x∈sk s):=by
 rcases AA lb s x with⟨ts,h1,h2⟩ | ⟨h1,h2⟩
 ·have:x∈sk s:=VE.mpr ⟨_,h1,rfl⟩;rw[h2,decide_eq_true this];rfl
 ·rw[h2,decide_eq_false h1];rfl
theorem Fnd.start(a0:0<=a)(a1:a<n):Fnd n R a [(a,[])] where
 nd:=by simp[sk]
 pl:=by intro x hx;simp[sk]at hx;subst hx;exact⟨a0,a1⟩
 st:=by simp[sk]
 way:=by intro e he;simp at he;subst he;exact⟨⟨rfl,by simp⟩,by simp[sk]⟩
theorem Fnd.step{s:Sr}(h:Fnd n R a s)(hp:(p,w)∈s){u:Step}(hu:u∈R p)(hn:u.2∉sk s)(u0:0<=u.2)(u1:u.2<n):Fnd n R a (s++[(u.2,w++[u])]) where
 nd:=by rw[jm];exact WL.mpr ⟨h.nd,by simp,fun x hx y hy=>by rw[Vw.mp hy];exact fun e=>hn (e▸hx)⟩
 pl:=by
  intro x hx;rw[jm]at hx;rcases Vt.mp hx with hx | hx
  ·exact h.pl x hx
  ·rw[Vw.mp hx];exact⟨u0,u1⟩
 st:=by rw[jm];exact VA _ h.st
 way:=by
  intro e he;rw[jm];rcases Vt.mp he with he | he
  ·obtain⟨k1,k2⟩:=h.way e he;exact⟨k1,fun x hx=>VA _ (k2 x hx)⟩
  ·rw[Vw.mp he];obtain⟨k1,k2⟩:=h.way _ hp;refine⟨⟨k1.way.snoc hu,?_⟩,fun x hx=>?_⟩
   ·dsimp only at k1 k2 ⊢;rw[Vy,<- Xu];exact WL.mpr ⟨k1.nd,by simp,fun x hx y hy=>by rw[Vw.mp hy];exact fun e:x=u.2=>hn (by rw[<- e];exact k2 x hx)⟩
   ·dsimp only at k1 k2 hx ⊢;rw[Vy,<- Xu]at hx;rcases Vt.mp hx with hx | hx
    ·exact VA _ (k2 x hx)
    ·exact VB _ (by simpa using hx)
def Done(R:Int->List Step)(K:List Int)(x:Int):Prop:=∀u∈R x,u.2∈K
noncomputable def LW(lb:Int->Dat)(n:Nat)(R:Int->List Step)(a:Int)(s:Sr)(ps:List Int)(c4 c5:Cell):Env:=[.sh (rsG lb n R),.sh (.int a),.ow (.dct (sk s) (svG lb s)),.ow (.lst (ps.map Dat.int)),c4,c5]
theorem Qd{ps:List Int}{p0:Int}{i:Nat}{e:FE}{ρ ρ2:Env}{Q:Val->Env->Prop}(q:Q (.val (.int p0)) ρ2)(h:ρ[i]?=some (.ow (.lst ((p0::ps).map Dat.int))))(he:e ρ=some (.val (.int 0),ρ))(hs:ρ.set i (.ow (.lst (ps.map Dat.int)))=ρ2):We (tP i e) ρ Q:=
 ⟨_,_,by unfold tP;rw[h];dsimp only;rw[he];dsimp only;rw[h];dsimp only;rw[if_pos (by unfold BIG;lia)];show some (Val.val (.int p0),ρ.set i (.ow (.lst (ps.map Dat.int))))=_;rw[hs],q⟩
theorem LX(lb:Int->Dat)(n:Nat)(R:Int->List Step)(x:Int)(h0:0<=x)(h1:x<n):gIx (rsG lb n R) (.int x)=some (.val (rwG lb (R x))):=by
 unfold rsG gIx;dsimp only;rw[wC (fun i:Nat=>rwG lb (R i)) (VO n) x h0 (by rw[Wl];exact h1)];have e:(((VO n)[x.toNat]'(by rw[Wl];lia):Nat):Int)=x:=by rw[List.getElem_range];lia
 rw[e];rfl
theorem xN(lb:Int->Dat)(n:Nat)(hn:n<=40)(R:Int->List Step)(hR:∀i:Int,0<=i->i<n->∀u∈R i,0<=u.2/\u.2<n)(a:Int)(a0:0<=a)(a1:a<n) :
  ∃s:Sr,xK [rsG lb n R,.int a]=some (.new (.dct (sk s) (svG lb s)))/\Fnd n R a s/\∀x∈sk s,Done R (sk s) x:=by
 suffices h:Wr (xK [rsG lb n R,.int a]) fun v=>∃s:Sr,v=.new (.dct (sk s) (svG lb s))/\Fnd n R a s/\∀x∈sk s,Done R (sk s) x by obtain⟨v,h1,s,rfl,h2⟩:=h;exact⟨s,h1,h2⟩
 unfold xK
 (refine Dm.Y4 ?_ rfl rfl;and_intros)
 refine YV (YX ?_ (by decide));refine aah (V_ rfl (jl.mk (Zj (W_ (Y7 ?_ rfl (by trivial) (by exact Vk rfl))))));refine Y6 (YZ ?_ (by trivial));refine YV (YX ?_ (by decide));refine Zj (m_ (V_ rfl (W_ (Y7 ?_ rfl (by trivial) (by exact Vk rfl)))));refine YZ ?_ (by trivial);refine YV ?_;refine ZW (fun k ρ=>∃(s:Sr) (ps:List Int) (c4 c5:Cell),ρ=LW lb n R a s ps c4 c5/\Fnd n R a s/\(∀x∈ps,x∈sk s)/\(∀x∈sk s,x∈ps\/Done R (sk s) x)/\k=ps.length+(n-s.length)/\k<=40) ?_ 100 n _ (by lia) ⟨[(a,[])],[a],_,_,rfl,Fnd.start a0 a1,by simp[sk],by simp[sk],by simp;lia,hn⟩;rintro k ρ ⟨s,ps,c4,c5,rfl,F,hps,hd,hk,Vg⟩;unfold LW;refine aaC ?_;refine Y0 rfl ?_;refine⟨_,!(ps.map Dat.int).isEmpty,rfl,rfl,?_⟩;have len:=F.len;cases ps with
 |nil=>refine Zx rfl ?_;refine Zb (Y0 rfl (Zq ?_ rfl));exact⟨s,rfl,F,fun x hx=>(hd x hx).resolve_left (by simp)⟩
 |cons p0 ps0=>
  refine ZR rfl ?_;unfold Np;refine YV (YX ?_ (by decide));refine Qd (ps:=ps0) (p0:=p0) ?_ rfl rfl rfl;refine Y3 ?_ (by trivial);have hp0:p0∈sk s:=hps p0 (by simp);obtain⟨q0,q1⟩:=F.pl p0 hp0;refine Zp (ZA (X_ (V_ rfl (V_ rfl (Y5 ?_ rfl rfl (LX lb n R p0 q0 q1))))));refine Y6 (jF ?_);refine Zt (stG lb) _ _ (R p0) _ _ _ _ _ (fun p q ρ=>∃(s:Sr) (ps:List Int) (c5:Cell),ρ=LW lb n R a s ps (.sh (.int p0)) c5/\Fnd n R a s/\(∀x∈ps,x∈sk s)/\p0∈sk s/\(∀x∈sk s,x∈ps\/x=p0\/Done R (sk s) x)/\(∀u∈p,u.2∈sk s)/\k=ps.length+1+(n-s.length)) ⟨s,ps0,_,rfl,F,fun x hx=>hps x (by simp[hx]),hp0,?_,by simp,by rw[hk];simp⟩ ?_ ?_
  ·intro x hx;rcases hd x hx with h | h
   ·rcases Vq.mp h with h | h
    ·exact .inr (.inl h)
    ·exact .inl h
   ·exact .inr (.inr h)
  ·rintro p u q ρ e' ⟨s,ps,c5,rfl,F,hps,hp0,hd,hp,hk⟩;have len:=F.len;have hu:u∈R p0:=by rw[e'];simp
   obtain⟨u0,u1⟩:=hR p0 q0 q1 u hu;unfold LW;refine Dm.jG rfl (by trivial) ?_;unfold Nn;refine Zo (Y_ (X_ (X_ (V_ rfl (YW (Y5 ?_ rfl rfl rfl))))));refine Y0 rfl (Z0 ?_ rfl rfl);refine YY ?_;rw[mJ];refine⟨fun h=>?_,fun h=>?_⟩
   ·have hnew:=ndT h;obtain⟨w,t1,t2⟩:∃w,(p0,w)∈s/\iF (sk s) (svG lb s) p0=some (rwG lb w):=by
     rcases AA lb s p0 with h | h
     ·exact h
     ·exact absurd hp0 h.1
    have wl:=F.DK t1;refine YV (aam (X_ (X_ (Y0 rfl (V_ rfl (ZX t2 ?_ rfl rfl))))));refine Zj (m_ (V_ rfl (W_ (Y7 ?_ rfl rfl (by exact Vk rfl)))));refine Zw ?_ rfl rfl (by rw[Pa];dsimp only at wl;simp;unfold SZ;lia);refine Zu (xH rfl (X_ (V_ rfl (YW (Y5 ?_ rfl rfl rfl)))));refine jl.mk (EV ?_ rfl (by trivial) (by simp only[sk,Pa];unfold SZ;lia));refine ZL (X_ (V_ rfl (YW (Y5 ?_ rfl rfl rfl)))) rfl;refine Y6 (Az ?_ rfl (by trivial) (by rw[Pa];unfold SZ;lia));have F':=F.step t1 hu hnew u0 u1;have len':=F'.len;have em:Dat.lst (w.map (stG lb)++[(stG lb) u])=rwG lb (w++[u]):=by simp[rwG]
    obtain⟨p1,p2⟩:=LU (ks:=sk s) (vs:=svG lb s) (i:=u.2) (d:=rwG lb (w++[u])) hnew;refine⟨s++[(u.2,w++[u])],ps++[u.2],.sh ((stG lb) u),?_,F',?_,?_,?_,?_,?_⟩
    ·rw[em,p1,p2,jm,LV,Vy];rfl
    ·intro x hx;rw[jm];rcases Vt.mp hx with hx | hx
     ·exact VA _ (hps x hx)
     ·exact VB _ hx
    ·rw[jm];exact VA _ hp0
    ·intro x hx;rw[jm]at hx ⊢;rcases Vt.mp hx with hx | hx
     ·rcases hd x hx with h | h | h
      ·exact .inl (VA _ h)
      ·exact .inr (.inl h)
      ·exact .inr (.inr fun y hy=>VA _ (h y hy))
     ·exact .inl (VB _ hx)
    ·intro v hv;rw[jm];rcases Vt.mp hv with hv | hv
     ·exact VA _ (hp v hv)
     ·rw[Vw.mp hv];simp
    ·rw[hk];simp at len' ⊢;lia
   ·have hold:=ndF h;refine Zh ?_;refine⟨s,ps,.sh ((stG lb) u),rfl,F,hps,hp0,hd,fun v hv=>?_,hk⟩;rcases Vt.mp hv with hv | hv
    ·exact hp v hv
    ·rw[Vw.mp hv];exact hold
  ·rintro ρ ⟨s,ps,c5,rfl,F,hps,hp0,hd,hp,hk⟩;refine⟨ps.length+(n-s.length),by lia,s,ps,_,_,rfl,F,hps,fun x hx=>?_,rfl,by lia⟩;rcases hd x hx with h | rfl | h
   ·exact .inl h
   ·exact .inr hp
   ·exact .inr h
noncomputable def pr(c:Int):Int×Int:=(c / 20,c % 20)
noncomputable def lbP(c:Int):Dat:=.tup [.int (c / 20),.int (c % 20)]
theorem xO{c d:Int}(h:pr c=pr d):c=d:=by
 unfold pr at h;injection h with h1 h2
 lia
noncomputable def hdF(h:List (Int×Int)):Hd:=fun m=>(h.find? fun e=>decide (e.1=m)).map (·.2)
noncomputable def hk(h:List (Int×Int)):List Int:=h.map (·.1)
noncomputable def hkP(h:List (Int×Int)):List (Int×Int):=h.map fun e=>pr e.1
noncomputable def hv(h:List (Int×Int)):List Dat:=h.map fun e=>Dat.int e.2
noncomputable def aK(h:List (Int×Int)):Dat:=.dcp (hkP h) (hv h)
theorem kR(h:List (Int×Int))(c:Int):jD (hkP h) (hv h) (c / 20,c % 20)=(hdF h c).map Dat.int:=by
 unfold hkP hv hdF
 induction h with
 |nil=>rfl
 |cons e h ih=>
  rw[gV,gV,jD,Wg];by_cases q:e.1=c
  ·rw[if_pos (by rw[q];rfl),decide_eq_true q];rfl
  ·rw[if_neg (fun z:pr e.1=(c / 20,c % 20)=>q (xO z)),decide_eq_false q];exact ih
theorem AB{m:Int}:(hdF h m).isSome=decide (m∈hk h):=by
 unfold hdF hk
 induction h with
 |nil=>rfl
 |cons e h ih=>
  rw[Wg];by_cases q:e.1=m
  ·rw[decide_eq_true q];simp[q]
  ·rw[decide_eq_false q];have q':¬m=e.1:=fun z=>q z.symm;simp only[gV,Vq,q',false_or];exact ih
theorem Qe(o:Option Int)(y:Int):gEq ((o.map Dat.int).getD .non) (.int y)=vB (decide (o=some y)):=by
 cases o with
 |none=>rfl
 |some z=>
  show gEq (.int z) (.int y)=_;rw[EX];have:(z=y)=(some z=some y):=by simp
  simp only[this]
noncomputable def Ca(h:List (Int×Int))(R:Int->List Step):Int->List Step:=fun x=>(R x).filter fun s=>decide (hdF h s.1=some s.2)
theorem AD(n:Nat)(hn:n<=1000)(R:Int->List Step)(hR:∀i:Nat,i<n->(R i).length<=1000)(h:List (Int×Int)):Ja [rsG lbP n R,aK h]=some (.new (rsG lbP n (Ca h R))):=by
 apply Za;unfold Ja
 (refine Dm.Y4 ?_ rfl rfl;and_intros)
 refine Zb ?_;refine aaD (fun i:Nat=>rwG lbP (R i)) (VO n) id (fun i:Nat=>rwG lbP (Ca h R i)) (d:=rsG lbP n R) ?_ rfl rfl rfl (by decide) (by rw[Wl];unfold SZ;lia) fun i hi=>?_
 ·rw[Xv];rfl
 ·have hl:=hR i (WE.mp hi);refine ZK (stG lbP) (R i) (fun s=>decide (hdF h s.1=some s.2)) id (stG lbP) (d:=rwG lbP (R i)) ?_ rfl rfl rfl (by decide) (by unfold SZ;lia) (fun s _=>?_) fun s _ _=>?_
  ·rw[Xv];exact Zu ⟨rfl,rfl⟩
  ·refine Y_ (X_ (aaA (V_ rfl ⟨⟨_,_,rfl⟩,X_ (V_ rfl (YW (Y5 ?_ rfl rfl rfl)))⟩)));refine⟨hkP h,hv h,s.1 / 20,s.1 % 20,rfl,rfl,X_ (V_ rfl (YW (Y5 ?_ rfl rfl rfl)))⟩;refine⟨_,_,_,rfl,rfl,(by rw[kR];exact Qe _ _),?_⟩;exact YY ⟨rfl,rfl⟩
  ·exact V_ rfl (Y6 ⟨rfl,rfl⟩)
noncomputable def uY(h:List (Int×Int))(s:Step):List (Int×Int):=if s.1∈hk h then h.filter fun e=>decide (e.1≠s.1) else h++[s]
theorem xP(h:List (Int×Int))(m:Int):hdF (h.filter fun e=>decide (e.1≠m))=put (hdF h) m none:=by
 funext x
 unfold put hdF;rw[List.find?_filter];by_cases e:x=m
 ·subst e;rw[if_pos rfl,Yj.mpr fun y _=>by simp];rfl
 ·rw[if_neg e]
  congr 1
  congr 1
  funext y
  by_cases q:y.1=x
  ·have:y.1≠m:=fun z=>e (q.symm.trans z);simp[q,e]
  ·simp[q]
theorem LY(h:List (Int×Int))(s:Step)(hn:s.1∉hk h):hdF (h++[s])=put (hdF h) s.1 (some s.2):=by
 funext x
 unfold put hdF;rw[List.find?_append];by_cases e:x=s.1
 ·subst e;rw[if_pos rfl];have:(h.find? fun e=>decide (e.1=s.1))=none:=Yj.mpr fun y hy=>by
   intro z;exact hn (VE.mpr ⟨y,hy,of_decide_eq_true z⟩)
  rw[this];simp
 ·rw[if_neg e];have e':¬s.1=x:=fun z=>e z.symm;cases hf:(h.find? fun e=>decide (e.1=x)) with
  |none=>simp[e']
  |some y=>rfl
theorem Jh(h:List (Int×Int))(s:Step):hdF (uY h s)=mF (hdF h) s.1 s.2:=by
 unfold uY mF;rw[AB];by_cases q:s.1∈hk h
 ·rw[if_pos q,if_pos (decide_eq_true q),xP]
 ·rw[if_neg q,if_neg (by simpa using q),LY h s q]
noncomputable def cA(h:List (Int×Int)):List Step->List (Int×Int)
 |[]=>h
 |s::w=>cA (uY h s) w
theorem zH:∀(w:List Step) (h:List (Int×Int)),hdF (cA h w)=uX (hdF h) w
 |[],_=>rfl
 |s::w,h=>by rw[cA,uX,zH w,Jh]
theorem mK:∀(w:List Step) (h:List (Int×Int)) (s:Step),cA h (w++[s])=uY (cA h w) s
 |[],_,_=>rfl
 |_::w,h,s=>by rw[Xu,cA,cA,mK w]
theorem wD(h:List (Int×Int))(c:Int):jk (hkP h) (hv h) (c / 20,c % 20)=hkP (h.filter fun e=>decide (e.1≠c))/\jE (hkP h) (hv h) (c / 20,c % 20)=hv (h.filter fun e=>decide (e.1≠c)):=by
 unfold hkP hv
 induction h with
 |nil=>exact⟨rfl,rfl⟩
 |cons e h ih=>
  rw[gV,gV,jk,jE];by_cases q:e.1=c
  ·rw[if_pos (by rw[q];rfl),if_pos (by rw[q];rfl),Wn (by simpa using q)];exact ih
  ·rw[if_neg (fun z:pr e.1=(c / 20,c % 20)=>q (xO z)),if_neg (fun z:pr e.1=(c / 20,c % 20)=>q (xO z)),Wo (by simpa using q),gV,gV,ih.1,ih.2];exact⟨rfl,rfl⟩
structure Hok(r:List Int)(h:List (Int×Int)):Prop where
 nd:(hk h).Nodup
 sub:∀m∈hk h,m∈r
theorem Hok.len(k:Hok r h):h.length<=r.length:=by
 have:=kB (hk h) r k.nd k.sub
 simpa [hk] using this
theorem Hok.nil(r:List Int):Hok r []:=⟨by simp[hk],by simp[hk]⟩
theorem Hok.drop(k:Hok r h)(m:Int):Hok r (h.filter fun e=>decide (e.1≠m)):=by refine⟨(k.nd.sublist (List.Sublist.map _ (List.filter_sublist))),fun x hx=>k.sub x ?_⟩;obtain⟨e,he,rfl⟩:=VE.mp hx;exact VE.mpr ⟨e,(Wd.mp he).1,rfl⟩
theorem Hok.lead(k:Hok r h)(hs:s.1∈r):Hok r (uY h s):=by
 unfold uY;split
 ·exact k.drop _
 ·rename_i q;refine⟨?_,fun x hx=>?_⟩
  ·unfold hk;rw[Vy];exact WL.mpr ⟨k.nd,by simp,fun x hx y hy=>by
    have:y=s.1:=by simpa using hy
    rw[this];exact fun e=>q (e▸hx)⟩
  ·unfold hk at hx;rw[Vy]at hx;rcases Vt.mp hx with hx | hx
   ·exact k.sub x hx
   ·have:x=s.1:=by simpa using hx
    rw[this];exact hs
theorem Hok.Ji:∀{w:List Step} {h:List (Int×Int)},Hok r h->(∀s∈w,s.1∈r)->Hok r (cA h w)
 |[],_,k,_=>k
 |s::w,h,k,hs=>by rw[cA];exact Hok.Ji (w:=w) (k.lead (hs s PU)) fun u hu=>hs u (Ds _ hu)
theorem AE:pr c∈hkP h↔c∈hk h:=by
 unfold hkP hk;rw[VE,VE];constructor
 ·rintro⟨e,he,q⟩;exact⟨e,he,xO q⟩
 ·rintro⟨e,he,q⟩;exact⟨e,he,by rw[q]⟩
theorem yQ(r:List Int)(hl:r.length<=1000)(h:List (Int×Int))(k:Hok r h)(w:List Step)(hw:∀s∈w,s.1∈r):Jb [aK h,rwG lbP w]=some (.val .non,aK (cA h w)):=by
 suffices q:WrM (Jb [aK h,rwG lbP w]) fun z d=>z=.val .non/\d=aK (cA h w) by obtain⟨z,d,h1,rfl,rfl⟩:=q;exact h1
 unfold Jb;refine Z2 ?_ rfl rfl;refine Zp (ZA (V_ rfl (Y6 (jF ?_))));refine Zt (stG lbP) _ _ w _ _ _ _ _ (fun p q ρ=>∃c2 c3,ρ=[.ow (aK (cA h p)),.sh (rwG lbP w),c2,c3]) ⟨_,_,rfl⟩ ?_ ?_
 ·rintro p s q ρ e ⟨c2,c3,rfl⟩;refine Dm.jG rfl (by trivial) ?_;have kp:Hok r (cA h p):=k.Ji fun u hu=>hw u (by rw[e];exact VA _ hu);have len:=kp.len;unfold Nq;refine Zo (Y_ (X_ (V_ rfl (Y0 rfl (ZY (i:=s.1 / 20) (j:=s.1 % 20) ?_ rfl rfl)))));refine YY ?_;rw[kR,WK,AB];refine Zi (fun hm=>?_) fun hm=>?_
  ·obtain⟨x,hx⟩:∃x,hdF (cA h p) s.1=some x:=VP.mp (by rw[AB];exact decide_eq_true hm);refine ZV (aan (p:=s.1 / 20) (q:=s.1 % 20) (d:=.int x) (by rw[kR,hx];rfl) ?_ rfl rfl rfl);refine⟨.sh (lbP s.1),.sh (.int s.2),?_⟩;rw[mK,uY,if_pos hm,(wD _ _).1,(wD _ _).2];rfl
  ·refine aaa (V_ rfl (Y6 (xH rfl (V_ rfl (xJ (p:=s.1 / 20) (q:=s.1 % 20) ?_ rfl rfl (by trivial) ?_)))))
   ·refine⟨.sh (lbP s.1),.sh (.int s.2),?_⟩;rw[mK,uY,if_neg hm];obtain⟨p1,p2⟩:=B4 (ks:=hkP (cA h p)) (vs:=hv (cA h p)) (p:=pr s.1) (d:=.int s.2) (fun z=>hm (AE.mp z));unfold pr at p1 p2;rw[p1,p2];unfold aK hkP hv;rw[Vy,Vy];rfl
   ·unfold hkP;rw[Pa];unfold SZ;lia
 ·rintro ρ ⟨c2,c3,rfl⟩;exact⟨_,rfl,rfl,rfl⟩
noncomputable def bh(r:List Int)(p:Int):List Step:=(r.filter fun c=>decide (Fd.src c=p)).map fun c=>(c,Fd.dst c)
theorem kT:s∈bh r p↔s.1∈r/\Fd.src s.1=p/\Fd.dst s.1=s.2:=by
 unfold bh;rw[VE];constructor
 ·rintro⟨c,hc,rfl⟩;obtain⟨h1,h2⟩:=Wd.mp hc;exact⟨h1,of_decide_eq_true h2,rfl⟩
 ·rintro⟨h1,h2,h3⟩;exact⟨s.1,Wd.mpr ⟨h1,decide_eq_true h2⟩,by rw[h3]⟩
theorem pN(r:List Int)(p:Int):(bh r p).length<=r.length:=by unfold bh;rw[Pa];exact Xo _ _
def Dr(n:Nat)(r:List Int):Prop:=∀c∈r,0<=Fd.src c/\Fd.src c<n/\0<=Fd.dst c/\Fd.dst c<n
theorem Cb(hp:Dr n r)(h:Fd.zE r x s):(0<=x/\x<n)/\0<=s.2/\s.2<n:=by
 obtain⟨hs,he⟩:=h;have:=hp s.1 hs
 lia
theorem DL{R:Int->Step->Prop}(hR:∀p s,R p s->Fd.zE r p s):∀{w:List Step} {x:Int},Way R x w y->∀s∈w,s.1∈r
 |[],_,_,s,hs=>by cases hs
 |u::w,x,h,s,hs=>by
  rcases Vq.mp hs with rfl | hs
  ·exact(hR _ _ h.1).1
  ·exact DL hR h.2 s hs
theorem AF:InR (Ca h (bh r)) p s↔Fd.Led r (hdF h) p s:=by
 unfold InR Ca Fd.Led;rw[Wd,kT,decide_eq_true_iff];constructor
 ·rintro⟨⟨h1,h2,h3⟩,h4⟩;exact⟨h1,h4,h2,h3⟩
 ·rintro⟨h1,h4,h2,h3⟩;exact⟨⟨h1,h2,h3⟩,h4⟩
theorem Cc(c:Int):bu (lbP c)=true:=by unfold lbP bu;exact oF _ (by intro x hx;simp at hx;rcases hx with rfl | rfl<;>exact tW _)
theorem Gh(w:List Step):bu (rwG lbP w)=true:=oG _ _ fun s=>by unfold stG bu;exact oF _ (by intro x hx;simp at hx;rcases hx with rfl | rfl;exact Cc _;exact tW _)
theorem kU(n:Nat)(R:Int->List Step):bu (rsG lbP n R)=true:=oG (fun i:Nat=>rwG lbP (R i)) _ fun i=>Gh _
noncomputable def mso(w:List Step):List Int:=w.map (·.1)
noncomputable def msD(w:List Step):Dat:=.lst ((mso w).map lbP)
noncomputable def gE(h:List (Int×Int)):List Int->List (Int×Int)
 |[]=>h
 |m::ms=>gE (h.filter fun e=>decide (e.1≠m)) ms
theorem uZ:∀(ms:List Int) (h:List (Int×Int)) (m:Int),gE h (ms++[m])=(gE h ms).filter fun e=>decide (e.1≠m)
 |[],_,_=>rfl
 |_::ms,h,m=>by rw[Xu,gE,gE,uZ ms]
theorem oH:∀(w:List Step) (h:List (Int×Int)),hdF (gE h (mso w))=ku (hdF h) w
 |[],_=>rfl
 |s::w,h=>by show hdF (gE _ (mso w))=ku _ w;rw[oH w,xP]
theorem u5:∀(ms:List Int) (h:List (Int×Int)) (x:Int),x∉ms->hdF (gE h ms) x=hdF h x
 |[],_,_,_=>rfl
 |m::ms,h,x,hx=>by rw[gE,u5 ms _ x fun z=>hx (Ds _ z),xP];unfold put;rw[if_neg fun z=>hx (by rw[z];exact PU)]
theorem Hok.drops:∀{ms:List Int} {h:List (Int×Int)},Hok r h->Hok r (gE h ms)
 |[],_,k=>k
 |m::ms,h,k=>by rw[gE];exact Hok.drops (ms:=ms) (k.drop m)
theorem DM{H:Hd}:∀{w:List Step} {x:Int},Way (Fd.Led r H) x w y->∀s∈w,H s.1=some s.2
 |[],_,_,s,hs=>by cases hs
 |u::w,x,h,s,hs=>by
  rcases Vq.mp hs with rfl | hs
  ·exact h.1.2.1
  ·exact DM h.2 s hs
structure LZ(r:List Int)(H:Hd)(a b:Int)(ws:List (List Step)):Prop where
 way:∀w∈ws,DJ (Fd.Led r H) a w b
 nd:(ws.map mso).flatten.Nodup
theorem Cd:∀{w:List Step} {H:Hd} {c x:Int},ku H w c=some x->H c=some x
 |[],_,_,_,h=>h
 |s::w,H,c,x,h=>by
  have:=Cd (w:=w) h;unfold put at this;split at this
  ·cases this
  ·exact this
noncomputable def Gi(n:Nat)(r:List Int)(h0 h:List (Int×Int))(a b:Int)(c:Nat)(ws:List (List Step))(c7 c8 c9:Cell):Env:=
 [.sh (rsG lbP n (bh r)),.sh (aK h0),.sh (.int a),.sh (.int b),.sh (.int c),.ow (aK h),.ow (.lst (ws.map msD)),c7,c8,c9]
theorem Gj(n:Nat)(hn:n<=20)(r:List Int)(hp:Dr n r)(nd:r.Nodup)(hl:r.length<=1000)(h:List (Int×Int))(k:Hok r h)(a b:Int)(a0:0<=a)(a1:a<n)(c:Nat)(hc:c<=1000)(fl:Fd.Flow r (hdF h) a b c) :
  ∃ws:List (List Step),Gf [rsG lbP n (bh r),aK h,.int a,.int b,.int c]=some (.new (.lst (ws.map msD)))/\ws.length=c/\LZ r (hdF h) a b ws:=by
 suffices q:Wr (Gf [rsG lbP n (bh r),aK h,.int a,.int b,.int c]) fun v=>∃ws:List (List Step),v=.new (.lst (ws.map msD))/\ws.length=c/\LZ r (hdF h) a b ws by obtain⟨v,h1,ws,rfl,h2⟩:=q;exact⟨ws,h1,h2⟩
 have hsm:mD (hkP h)=true:=by
  unfold mD hkP;rw[List.all_map];refine Wv.mpr fun e he=>?_;have:=hp e.1 (k.sub e.1 (VE.mpr ⟨e,he,rfl⟩));unfold Fd.src Fd.dst at this;show decide (0<=e.1 / 20/\e.1 / 20<20/\0<=e.1 % 20/\e.1 % 20<20)=true;rw[decide_eq_true_iff]
  lia
 unfold Gf
 (refine Dm.Y4 ?_ rfl rfl;and_intros)
 refine YV (YX (Zm (m_ (V_ rfl (W_ (aaB (ks:=hkP h) (vs:=hv h) ?_ rfl hsm))))) (by decide));refine YZ ?_ (by trivial);refine YV (YX (Zj (W_ (Y7 ?_ rfl rfl (by decide)))) (by decide));refine YZ ?_ (by trivial);refine YV (Zp (ZH (V_ rfl (jl.mk ⟨?_,by unfold BIG;lia,by unfold BIG;lia⟩))));refine Zt (fun i:Nat=>Dat.int (0+(i:Nat))) _ _ (VO c) _ _ _ _ _ (fun p q ρ=>∃(h':List (Int×Int)) (ws:List (List Step)) (c7 c8 c9:Cell),ρ=Gi n r h h' a b c ws c7 c8 c9/\Hok r h'/\ws.length=p.length/\Fd.Flow r (hdF h') a b q.length/\LZ r (hdF h) a b ws/\(∀m∈(ws.map mso).flatten,hdF h' m=none)/\∀c x,hdF h' c=some x->hdF h c=some x)
  ⟨h,[],_,_,_,rfl,k,rfl,by rw[Wl];exact fl,⟨by simp,by simp⟩,by simp,fun _ _ z=>z⟩ ?_ ?_
 ·rintro p x q ρ e ⟨h',ws,c7,c8,c9,rfl,k',wl,fl',W,hno,hle⟩;rw[VX]at fl';unfold Gi;refine Dm.jG rfl (by trivial) ?_;unfold Nt;have hR:∀i:Nat,i<n->(bh r i).length<=1000:=fun i _=>Nat.le_trans (pN r i) hl;obtain⟨s,es,F,hd⟩:=xN lbP n (by lia) (Ca h' (bh r)) (fun i _ _ u hu=>(Cb hp ((AF (h:=h')).mp hu).along).2) a a0 a1;have hb:b∈sk s:=by
   have:=fl'.reach (S:=fun y=>decide (y∈sk s)) (decide_eq_true F.st) fun y u hy hu=>decide_eq_true (hd y (of_decide_eq_true hy) u (AF.mpr hu));exact of_decide_eq_true this
  obtain⟨w,t1,t2⟩:∃w,(b,w)∈s/\iF (sk s) (svG lbP s) b=some (rwG lbP w):=by
   rcases AA lbP s b with h | h
   ·exact h
   ·exact absurd hb h.1
  obtain⟨⟨w1,w2⟩,_⟩:=F.way _ t1;have DK:=F.DK t1;have Vh:=F.len;dsimp only at w1 w2 DK;have w1':Way (Fd.Led r (hdF h')) a w b:=w1.mono fun _ _ z=>AF.mp z;have wm:=Fd.pJ (fun p s h=>h.along) w1' w2;have SQ:iS (e2 gDx (eF xK [(tU Ja [(eV 0),(eV 5)]),(eV 2)]) (eV 3)) [.sh (rsG lbP n (bh r)),.sh (aK h),.sh (.int a),.sh (.int b),.sh (.int c),.ow (aK h'),.ow (.lst (ws.map msD)),.sh (.int (0+(x:Nat))),c8,c9]
    = some (w.map (stG lbP),[.sh (rsG lbP n (bh r)),.sh (aK h),.sh (.int a),.sh (.int b),.sh (.int c),.ow (aK h'),.ow (.lst (ws.map msD)),.sh (.int (0+(x:Nat))),c8,c9]):=by
   apply ZE;refine ZA (X_ (Y8 (m_ (Zz (m_ (V_ rfl (m_ (Y0 rfl (W_ ?_)))))))));refine⟨_,_,_,rfl,AD n (by lia) (bh r) hR h',kU _ _,?_⟩;refine m_ (V_ rfl (W_ (Zk es ?_ rfl rfl rfl rfl)));refine V_ rfl (ZX t2 ?_ rfl rfl);exact Y6 (jF ⟨rfl,rfl⟩)
  refine YV (YX (ZO (stG lbP) w (fun s=>s.1) lbP ?_ SQ rfl (by decide) (by unfold SZ;lia) fun s _=>X_ (V_ rfl (YW (Y5 (Y6 ⟨rfl,rfl⟩) rfl rfl rfl)))) (by decide));refine YZ ?_ (by trivial);refine YV (Zp (ZA (Y0 rfl (Z6 (jF ?_) rfl (by trivial)))));refine Zt lbP _ _ (mso w) _ _ _ _ _ (fun pm qm ρ=>∃c9,ρ=Gi n r h (gE h' pm) a b c ws (.sh (.int (0+(x:Nat)))) (.sh (msD w)) c9) ⟨_,rfl⟩ ?_ ?_
  ·rintro pm m qm ρ em ⟨c9,rfl⟩;unfold Gi;refine Dm.jG rfl (by trivial) ?_;unfold Nr;have hm:m∉pm:=by
    have:(mso w).Nodup:=wm;rw[em]at this;exact fun z=>(WL.mp this).2.2 m z m PU rfl
   have hmw:m∈mso w:=by rw[em];simp
   obtain⟨st,hst,rfl⟩:=VE.mp hmw;have hx:hdF (gE h' pm) st.1=some st.2:=by rw[u5 pm h' st.1 hm];exact DM w1' st hst
   refine ZV (aan (p:=st.1 / 20) (q:=st.1 % 20) (d:=.int st.2) (by rw[kR,hx];rfl) ?_ rfl rfl rfl);refine⟨.sh (lbP st.1),?_⟩;rw[uZ,(wD _ _).1,(wD _ _).2];rfl
  ·rintro ρ ⟨c9,rfl⟩;unfold Gi;refine ZL (V_ rfl (Y6 (Az ?_ rfl (by trivial) ?_))) rfl
   ·have fl2:=fl'.less nd w1' w2;rw[<- oH]at fl2;refine⟨gE h' (mso w),ws++[w],.sh (.int (0+(x:Nat))),.sh (msD w),c9,?_,k'.drops,by simp[wl],fl2,⟨fun v hv=>?_,?_⟩,fun m hm=>?_,fun c x z=>hle c x (Cd (by rw[<- oH];exact z))⟩
    ·rw[Vy];rfl
    ·rcases Vt.mp hv with hv | hv
     ·exact W.way v hv
     ·rw[Vw.mp hv];exact⟨w1'.mono fun _ _ z=>⟨z.1,hle _ _ z.2.1,z.2.2⟩,w2⟩
    ·rw[Vy,List.flatten_append];refine WL.mpr ⟨W.nd,by rw[gV,XG,WJ,List.flatten_nil,VQ];exact wm,fun m hm z hz=>?_⟩;intro e;subst e;have:m∈mso w:=by simpa using hz
     obtain⟨st,hst,rfl⟩:=VE.mp this;have h1:=DM w1' st hst;rw[hno _ hm]at h1;cases h1
    ·rw[Vy,List.flatten_append]at hm;rw[oH];rcases Vt.mp hm with hm | hm
     ·by_cases z:m∈mso w
      ·exact pI z
      ·rw[mG fun u hu e=>z (VE.mpr ⟨u,hu,e⟩)];exact hno m hm
     ·rw[gV,XG,WJ,List.flatten_nil,VQ]at hm;exact pI hm
   ·rw[Pa,wl];have:=congrArg List.length e;rw[Wl,Vn]at this;unfold SZ;lia
 ·rintro ρ ⟨h',ws,c7,c8,c9,rfl,k',wl,fl',W,hno,hle⟩;unfold Gi;refine Zb (Y0 rfl (Zq ?_ rfl));exact⟨ws,rfl,by rw[wl,Wl],W⟩
noncomputable def jQ(t:Tie):Dat:=.tup [.int t.m,.int t.a,.int t.b]
noncomputable def cO(r:List Tie):Dat:=.lst (r.map jQ)
def Pl(n:Nat)(r:List Tie):Prop:=∀t∈r,0<=t.a/\t.a<n/\0<=t.b/\t.b<n
theorem L5{ρ ρ1 ρ2 ρ3:Env}{rows:List (List Dat)}{m:Nat}{row:List Dat}{x:Val}(h1:i ρ=some (.val (.int k),ρ1))(h2:ixN rows.length k=some m)(h3:rows[m]?=some row)(h4:e ρ1=some (x,ρ2))(h5:tk ρ2 x=some (d,ρ3))(h6:row.length<SZ) :
  An i e ρ rows=some (ρ3,rows.set m (row++[d])):=by
 unfold An;rw[h1];dsimp only;rw[h2];dsimp only;rw[h3];dsimp only;rw[h4];dsimp only;rw[h5];dsimp only;rw[if_pos h6]
theorem Qf(h0:0<=k)(h1:k<n):ixN n k=some k.toNat:=by unfold ixN;rw[if_pos h0,if_pos h1]
theorem DO(pre:Env)(k:Nat)(hk:pre.length=k)(h0:k≠0):∀(ds:List Dat) (c:Cell),∃c',nMk (bN k) ds (pre++[c])=some (pre++[c'])
 |[],c=>⟨c,rfl⟩
 |d::ds,c=>by
  obtain⟨c',e⟩:=DO pre k hk h0 ds (.sh d);refine⟨c',?_⟩;rw[nMk];have:bN k d (pre++[c])=some (pre++[.sh d]):=by unfold bN;rw[if_neg h0,Xq _ _ (by lia)];simp[hk]
  rw[this];exact e
noncomputable def bR(n:Nat)(R:Int->List Step):List (List Dat):=(VO n).map fun i:Nat=>(R i).map (stG lbP)
noncomputable def AG(R:Int->List Step)(k:Int)(s:Step):Int->List Step:=fun x=>if x=k then R x++[s] else R x
theorem oJ(n:Nat)(R:Int->List Step):(bR n R).length=n:=by simp[bR]
theorem t7(n:Nat)(R:Int->List Step)(i:Nat)(h:i<n):(bR n R)[i]?=some ((R i).map (stG lbP)):=by unfold bR;rw[VH,Xi h];rfl
theorem Gk(n:Nat)(R:Int->List Step)(k:Int)(s:Step)(h0:0<=k)(h1:k<n):(bR n R).set k.toNat ((R k).map (stG lbP)++[stG lbP s])=bR n (AG R k s):=by
 apply W9;intro i;by_cases hi:i<n
 ·rw[t7 _ _ _ hi];unfold AG;by_cases e:k.toNat=i
  ·have e':(i:Int)=k:=by lia
   rw[<- e,Vz (by rw[oJ];lia),e,if_pos e',e',Vy];rfl
  ·rw[gc e,t7 _ _ _ hi,if_neg (by lia)]
 ·rw[VJ (by rw[VT,oJ];lia),VJ (by rw[oJ];lia)]
theorem zI(n:Nat):bR n (fun _=>[])=Dp n []:=by
 unfold bR;apply W9;intro i;by_cases hi:i<n
 ·rw[VH,Xi hi,VR,if_pos hi];rfl
 ·rw[VJ (by simp;lia),VJ (by simp;lia)]
theorem Ce(n:Nat)(R:Int->List Step):Dat.lst ((bR n R).map Dat.lst)=rsG lbP n R:=by unfold bR rsG;rw[V0];rfl
theorem AH(n:Nat)(R:Int->List Step)(k:Int)(s:Step)(h0:0<=k)(h1:k<n)(hl:(R k).length<10000){ρ:Env}(hi:i ρ=some (.val (.int k),ρ))(he:e ρ=some (.val (stG lbP s),ρ)):An i e ρ (bR n R)=some (ρ,bR n (AG R k s)):=by
 have hz:SZ=100000:=rfl;have ek:((k.toNat:Nat):Int)=k:=by lia
 rw[L5 (k:=k) (m:=k.toNat) (row:=(R k).map (stG lbP)) (d:=stG lbP s) (ρ3:=ρ) hi (by rw[oJ];exact Qf h0 h1) (by rw[t7 _ _ _ (by lia),ek]) he rfl (by rw[Pa];lia),Gk n R k s h0 h1]
theorem Cf(p:List Int)(c:Int):AG (bh p) (Fd.src c) (c,Fd.dst c)=bh (p++[c]):=by
 funext x
 unfold AG bh;rw[List.filter_append,Vy];by_cases e:x=Fd.src c
 ·rw[if_pos e,Wo (by simp[e])];rfl
 ·rw[if_neg e,Wn (by simp;exact fun z=>e z.symm)];simp
theorem Cg(n:Nat)(c0 c1 c2 c3:Cell):∀(q p:List Int) (c4:Cell),Dr n q->p.length+q.length<=1000 ->
  ∃c4',jf (bN 4) kQ (q.map lbP) [c0,c1,c2,c3,c4] (bR n (bh p))=some ([c0,c1,c2,c3,c4'],bR n (bh (p++q)))
 |[],p,c4,_,_=>⟨c4,by rw[VQ];rfl⟩
 |c::q,p,c4,hp,hl=>by
  obtain⟨a0,a1,_,_⟩:=hp c PU;rw[VX]at hl;obtain⟨c4',e⟩:=Cg n c0 c1 c2 c3 q (p++[c]) (.sh (lbP c)) (fun u hu=>hp u (Ds _ hu)) (by rw[Vn,W4];lia);refine⟨c4',?_⟩;rw[gV,jf];have sl:=pN p (Fd.src c);have h1:kQ [c0,c1,c2,c3,.sh (lbP c)] (bR n (bh p))=some ([c0,c1,c2,c3,.sh (lbP c)],bR n (bh (p++[c]))):=by unfold kQ;rw[AH n (bh p) (Fd.src c) (c,Fd.dst c) a0 a1 (by lia) rfl rfl,Cf]
  show (match kQ [c0,c1,c2,c3,.sh (lbP c)] (bR n (bh p)) with | none=>none | some (ρ2,r2)=>jf (bN 4) kQ (q.map lbP) ρ2 r2)=_;rw[h1];dsimp only;rw[e,Wa];rfl
noncomputable def thr(n:Nat):List Int:=(VO n).map fun p:Nat=>20*(p:Int)+((n:Int)+p)
theorem L6(n:Nat)(hn:n<=10):(thr n).map lbP=(VO n).map fun p:Nat=>Dat.tup [.int (p:Int),.int ((n:Int)+p)]:=by unfold thr;rw[V0];refine Xh fun p hp=>?_;have:=WE.mp hp;show lbP _=_;unfold lbP;rw[show (20*(p:Int)+((n:Int)+p)) / 20=(p:Int) by lia,show (20*(p:Int)+((n:Int)+p)) % 20=(n:Int)+p by lia]
theorem zJ(K:List (Int×Int)):(hkP K).map pairD=(hk K).map lbP:=by unfold hkP hk;rw[V0,V0];rfl
theorem aau{s:FS}{ρ ρ':Env}(h:Ws s ρ (fun x=>x=ρ') (fun _ _=>False) (fun _=>False) (fun _=>False)):s ρ=some (.nx ρ'):=by
 obtain⟨o,e,h⟩:=h;cases o with
 |nx ρ1=>rw[e,show ρ1=ρ' from h]
 |_=>exact h.elim
theorem Jj(n:Nat):ups 0 n=(VO n).map fun i:Nat=>Dat.int (i:Int):=by unfold ups;exact Xh fun i _=>by rw[Int.zero_add]
theorem Jk(n:Nat)(n10:n<=10)(K:List (Int×Int))(hK:Dr (2*n) (hk K))(hl:K.length<=900) :
  EY [.int n,aK K]=some (.new (rsG lbP (2*n) (bh (hk K++thr n)))):=by
 have hz:SZ=100000:=rfl;have tl:(thr n).length=n:=by simp[thr]
 have kl:(hk K).length=K.length:=by simp[hk]
 have hT:Dr (2*n) (thr n):=fun c hc=>by
  obtain⟨p,hp,rfl⟩:=VE.mp hc;have:=WE.mp hp;unfold Fd.src Fd.dst
  lia
 obtain⟨c4,e⟩:=Cg (2*n) (.sh (.int n)) (.sh (aK K)) .un (.ow (.lst ((thr n).map lbP))) (hk K++thr n) [] .un (fun c hc=>(Vt.mp hc).elim (hK c) (hT c)) (by rw[Vn];simp;lia);obtain⟨c',eM⟩:=DO [.sh (.int n),.sh (aK K),.un,.un,.un] 5 rfl (by decide) (ups 0 (2*n)) .un;have hu:(ups 0 (2*n)).length=2*n:=by simp[ups]
 have e1:iR1 (e2 l0 (eC (.int 2)) (eV 0)) [.sh (.int n),.sh (aK K),.un,.un,.un]=some (ups 0 (2*n),[.sh (.int n),.sh (aK K),.un,.un,.un]):=by apply ZE;refine ZH (X_ (YW (V_ rfl (ZI (jl.mk ⟨⟨?_,rfl⟩,by unfold BIG;lia⟩) rfl rfl (.inl (by unfold B64;lia))))));rw[show ((2:Int)*(n:Int)).toNat=2*n by lia]
 have eS:bh []=fun _=>[]:=by funext x;rfl
 rw[eS,zI,WW]at e;have eA:sA 3 (gy (iR1 (eV 0)) 1 (bN 5) iE (jy [(eV 5),(e2 b_ (eV 0) (eV 5))])) [.sh (.int n),.sh (aK K),.un,.un,.un]=some (.nx [.sh (.int n),.sh (aK K),.un,.ow (.lst ((thr n).map lbP)),.un]):=by
  apply aau;refine YX (ZO (fun i:Nat=>Dat.int (i:Int)) (VO n) (fun p:Nat=>Dat.tup [.int (p:Int),.int ((n:Int)+p)]) id ?_ (ZE (ZH (V_ rfl (jl.mk ⟨⟨?_,rfl⟩,by unfold BIG;lia⟩)))) rfl (by decide) (by rw[Wl];lia) fun p _=>?_) (by decide)
  ·rw[Xv,<- L6 n n10];exact YZ rfl (by trivial)
  ·rw[Yu,Jj]
  ·exact Zy (m_ (V_ rfl (m_ (X_ (V_ rfl (V_ rfl (Zd (W_ (Y7 (Y6 ⟨rfl,rfl⟩) rfl rfl (by exact Vk rfl))) rfl rfl)))))))
 have eL:iS (e2 b_ (eB jO [(eV 1)]) (eV 3)) [.sh (.int n),.sh (aK K),.un,.ow (.lst ((thr n).map lbP)),.un]=some ((hk K++thr n).map lbP,[.sh (.int n),.sh (aK K),.un,.ow (.lst ((thr n).map lbP)),.un]):=by
  apply ZE;refine ZA (X_ (Zm (m_ (V_ rfl (W_ (aaF (ks:=hkP K) (vs:=hv K) (Y0 rfl (Zw ?_ rfl rfl ?_)) rfl ?_))))))
  ·rw[zJ,<- Vy];exact Zu (jF ⟨rfl,rfl⟩)
  ·rw[zJ,Pa,Pa];lia
  ·unfold hkP;rw[Pa];lia
 have en:lN 2 (iR1 (e2 l0 (eC (.int 2)) (eV 0))) 1 (bN 5) (BH (nA 2 3 (gy (iR1 (eV 0)) 1 (bN 5) iE (jy [(eV 5),(e2 b_ (eV 0) (eV 5))]))) (rH (iS (e2 b_ (eB jO [(eV 1)]) (eV 3))) (bN 4) kQ)) [.sh (.int n),.sh (aK K),.un,.un,.un]=some (.nx [.sh (.int n),.sh (aK K),.ow (rsG lbP (2*n) (bh (hk K++thr n))),.ow (.lst ((thr n).map lbP)),c4]):=by
  unfold lN;rw[if_neg (by decide),e1];dsimp only;rw[if_pos (by rw[hu];lia)];show (match nMk (bN 5) (ups 0 (2*n)) ([.sh (.int n),.sh (aK K),.un,.un,.un]++[.un]) with | none=>none | some ρ2=>_)=_;rw[eM];dsimp only;rw[hu];have:BH (nA 2 3 (gy (iR1 (eV 0)) 1 (bN 5) iE (jy [(eV 5),(e2 b_ (eV 0) (eV 5))]))) (rH (iS (e2 b_ (eB jO [(eV 1)]) (eV 3))) (bN 4) kQ) [.sh (.int n),.sh (aK K),.un,.un,.un] (Dp (2*n) [])=some ([.sh (.int n),.sh (aK K),.un,.ow (.lst ((thr n).map lbP)),c4],bR (2*n) (bh (hk K++thr n))):=by unfold BH nA;rw[if_neg (by decide),eA];dsimp only;unfold rH;rw[eL];exact e
  show (match BH (nA 2 3 (gy (iR1 (eV 0)) 1 (bN 5) iE (jy [(eV 5),(e2 b_ (eV 0) (eV 5))]))) (rH (iS (e2 b_ (eB jO [(eV 1)]) (eV 3))) (bN 4) kQ) [.sh (.int n),.sh (aK K),.un,.un,.un] (Dp (2*n) []) with | none=>none | some (ρ3,r3)=>_)=_;rw[this];show some (Out.nx [.sh (.int n),.sh (aK K),.ow (.lst ((bR (2*n) (bh (hk K++thr n))).map Dat.lst)),.ow (.lst ((thr n).map lbP)),c4])=_;rw[Ce]
 apply Za;unfold EY
 (refine Dm.Y4 ?_ rfl rfl;and_intros)
 refine YV ⟨_,en,?_⟩;refine Zb (Y0 rfl (Zq ?_ rfl));rfl
noncomputable def putL(h:List (Int×Int))(c m:Int):List (Int×Int):=if c∈hk h then h.map fun e=>if e.1=c then (e.1,m) else e else h++[(c,m)]
theorem Ci(h:List (Int×Int))(c m:Int):zz (hkP h) (hv h) (c / 20,c % 20) (.int m)=hv (h.map fun e=>if e.1=c then (e.1,m) else e)/\hkP (h.map fun e=>if e.1=c then (e.1,m) else e)=hkP h:=by
 unfold hkP hv
 induction h with
 |nil=>exact⟨rfl,rfl⟩
 |cons e h ih=>
  rw[gV,gV,gV,gV,gV,zz,ih.1,ih.2];by_cases q:e.1=c
  ·rw[if_pos (by rw[q];rfl),if_pos q];exact⟨rfl,rfl⟩
  ·rw[if_neg (fun z:pr e.1=(c / 20,c % 20)=>q (xO z)),if_neg q];exact⟨rfl,rfl⟩
theorem Jl(h:List (Int×Int))(c m:Int):Dat.dcp (ja (hkP h) (c / 20,c % 20)) (jN (hkP h) (hv h) (c / 20,c % 20) (.int m))=aK (putL h c m):=by
 by_cases q:c∈hk h
 ·have hp:xF (hkP h) (c / 20,c % 20)=true:=by
   unfold xF;rw[List.any_eq_true];exact⟨pr c,AE.mpr q,decide_eq_true rfl⟩
  unfold ja jN putL aK;rw[hp,if_pos rfl,if_pos rfl,if_pos q,(Ci h c m).1,(Ci h c m).2]
 ·obtain⟨p1,p2⟩:=B4 (ks:=hkP h) (vs:=hv h) (p:=pr c) (d:=.int m) (fun z=>q (AE.mp z));unfold pr at p1 p2;rw[p1,p2];unfold putL aK;rw[if_neg q];unfold hkP hv;rw[Vy,Vy];rfl
theorem Cj{c m x:Int}:x∈hk (putL h c m)↔x∈hk h\/x=c:=by
 unfold putL;by_cases q:c∈hk h
 ·rw[if_pos q];have:hk (h.map fun e=>if e.1=c then (e.1,m) else e)=hk h:=by
   unfold hk;rw[V0];refine Xh fun e _=>?_;show (if e.1=c then (e.1,m) else e).1=e.1;split<;>rfl
  rw[this];exact⟨.inl,fun z=>z.elim id fun e=>e▸q⟩
 ·rw[if_neg q];unfold hk;rw[Vy,Vt];simp
theorem xQ{c m:Int}(nd:(hk h).Nodup):(hk (putL h c m)).Nodup:=by
 unfold putL;by_cases q:c∈hk h
 ·rw[if_pos q];have:hk (h.map fun e=>if e.1=c then (e.1,m) else e)=hk h:=by
   unfold hk;rw[V0];refine Xh fun e _=>?_;show (if e.1=c then (e.1,m) else e).1=e.1;split<;>rfl
  rw[this];exact nd
 ·rw[if_neg q];unfold hk;rw[Vy];exact WL.mpr ⟨nd,by simp,fun x hx y hy=>by
   have:y=c:=by simpa using hy
   rw[this];exact fun e=>q (e▸hx)⟩
theorem xR(h:List (Int×Int))(c m:Int):(putL h c m).length<=h.length+1:=by
 unfold putL;split
 ·rw[Pa];lia
 ·simp
noncomputable def cd(n:Nat)(u v:Int):Int:=20*((n:Int)+u)+v
noncomputable def L7(n:Nat)(h:List (Int×Int))(t:Tie):List (Int×Int):=if t.a=t.b then h else putL (putL h (cd n t.a t.b) t.m) (cd n t.b t.a) t.m
noncomputable def cX(n:Nat)(r:List Tie):List (Int×Int):=r.foldl (L7 n) []
theorem zK(n:Nat)(r:List Tie)(t:Tie):cX n (r++[t])=L7 n (cX n r) t:=by unfold cX;rw[List.foldl_append];rfl
structure Mom(n:Nat)(r:List Tie)(h:List (Int×Int)):Prop where
 nd:(hk h).Nodup
 mem:∀c,c∈hk h↔∃t∈r,t.a≠t.b/\(c=cd n t.a t.b\/c=cd n t.b t.a)
 len:h.length<=2*r.length
theorem AI(n:Nat)(r:List Tie):Mom n r (cX n r):=by
 suffices h:∀q p:List Tie,Mom n p (cX n p)->Mom n (p++q) (cX n (p++q)) from h r [] ⟨by simp[cX,hk],by simp[cX,hk],by simp[cX]⟩
 intro q
 induction q with
 |nil=>intro p h;rw[VQ];exact h
 |cons t q ih=>
  intro p h;rw[show p++t::q=(p++[t])++q by simp];refine ih _ ?_;rw[zK];unfold L7;by_cases e:t.a=t.b
  ·rw[if_pos e];refine⟨h.nd,fun c=>(h.mem c).trans ⟨fun⟨u,hu,k⟩=>⟨u,VA _ hu,k⟩,?_⟩,by have:=h.len;rw[Vn];simp;lia⟩;rintro⟨u,hu,k1,k2⟩;rcases Vt.mp hu with hu | hu
   ·exact⟨u,hu,k1,k2⟩
   ·rw[Vw.mp hu]at k1;exact(k1 e).elim
  ·rw[if_neg e];refine⟨xQ (xQ h.nd),fun c=>?_,?_⟩
   ·rw[Cj,Cj,h.mem c];constructor
    ·rintro((⟨u,hu,k⟩ | k) | k)
     ·exact⟨u,VA _ hu,k⟩
     ·exact⟨t,VB _ (Vw.mpr rfl),e,.inl k⟩
     ·exact⟨t,VB _ (Vw.mpr rfl),e,.inr k⟩
    ·rintro⟨u,hu,k1,k2⟩;rcases Vt.mp hu with hu | hu
     ·exact .inl (.inl ⟨u,hu,k1,k2⟩)
     ·rw[Vw.mp hu]at k2;exact k2.elim (fun z=>.inl (.inr z)) .inr
   ·have l1:=xR (putL (cX n p) (cd n t.a t.b) t.m) (cd n t.b t.a) t.m;have l2:=xR (cX n p) (cd n t.a t.b) t.m;have:=h.len;rw[Vn];simp
    lia
theorem AJ{u v:Int}(h0:0<=v)(h1:v<20):cd n u v / 20=(n:Int)+u/\cd n u v % 20=v:=by
 unfold cd
 lia
theorem DP(n:Nat)(n10:n<=10)(r:List Tie)(hp:Pl n r)(hl:r.length<=400):LR [.int n,cO r]=some (.new (aK (cX n r))):=by
 have hz:SZ=100000:=rfl;apply Za;unfold LR
 (refine Dm.Y4 ?_ rfl rfl;and_intros)
 refine YV (YX (aad (YZ ?_ (by trivial))) (by decide));refine YV (Zp (ZA (V_ rfl (Y6 (jF ?_)))));refine Zt jQ _ _ r _ _ _ _ _ (fun p q ρ=>∃c3 c4 c5,ρ=[.sh (.int n),.sh (cO r),.ow (aK (cX n p)),c3,c4,c5]) ⟨_,_,_,rfl⟩ ?_ ?_
 ·rintro p t q ρ e ⟨c3,c4,c5,rfl⟩;have ht:t∈r:=by rw[e];simp
  obtain⟨a0,a1,b0,b1⟩:=hp t ht;have ml:=(AI n p).len;have pl:p.length<=r.length:=by rw[e];simp
  refine Dm.jG rfl (by trivial) ?_;unfold Nu;rw[zK];unfold L7;refine Zo (Y_ (X_ (V_ rfl (V_ rfl (ZM (YY ?_) rfl rfl)))));by_cases h:t.a=t.b
  ·rw[decide_eq_true h,if_pos h];refine Zl (Zh ?_);exact⟨_,_,_,rfl⟩
  ·rw[decide_eq_false h,if_neg h];refine Zr (YV (aaa (V_ rfl (Y6 (xH rfl ?_)))));have e1:=AJ (n:=n) (u:=t.a) (v:=t.b) b0 (by lia);have e2':=AJ (n:=n) (u:=t.b) (v:=t.a) a0 (by lia);have l2:=xR (cX n p) (cd n t.a t.b) t.m;refine Zy (m_ (X_ (V_ rfl (V_ rfl (Zd (m_ (V_ rfl (W_ (Y7 ?_ rfl rfl (by exact Vk rfl))))) rfl rfl)))));refine xJ (p:=(n:Int)+t.a) (q:=t.b) (ks:=hkP (cX n p)) (vs:=hv (cX n p)) ?_ rfl rfl rfl (by unfold hkP;rw[Pa];lia);have k1:=Jl (cX n p) (cd n t.a t.b) t.m;rw[e1.1,e1.2]at k1;rw[k1];refine aaa (V_ rfl (Y6 (xH rfl ?_)));refine Zy (m_ (X_ (V_ rfl (V_ rfl (Zd (m_ (V_ rfl (W_ (Y7 ?_ rfl rfl (by exact Vk rfl))))) rfl rfl)))));refine xJ (p:=(n:Int)+t.b) (q:=t.a) (ks:=hkP (putL (cX n p) (cd n t.a t.b) t.m)) (vs:=hv (putL (cX n p) (cd n t.a t.b) t.m)) ?_ rfl rfl rfl (by unfold hkP;rw[Pa];lia);have k2:=Jl (putL (cX n p) (cd n t.a t.b) t.m) (cd n t.b t.a) t.m;rw[e2'.1,e2'.2]at k2;rw[k2];exact⟨_,_,_,rfl⟩
 ·rintro ρ ⟨c3,c4,c5,rfl⟩;exact Zb (Y0 rfl (Zq rfl rfl))
noncomputable def freeOf(H:Hd)(q:List (Int×Step))(x:Int):List Step:=q.filterMap fun e=>if (H e.2.1).isSome=true then (if x=e.2.2 then some (e.2.1,e.1) else none) else if x=e.1 then some e.2 else none
theorem xS(H:Hd)(q:List (Int×Step))(x:Int):(freeOf H q x).length<=q.length:=List.length_filterMap_le _ _
theorem Gm(H:Hd)(q:List (Int×Step))(d:Int)(u:Step)(h:(H u.1).isSome=true):AG (freeOf H q) u.2 (u.1,d)=freeOf H (q++[(d,u)]):=by
 funext x
 unfold AG freeOf;rw[List.filterMap_append];by_cases e:x=u.2
 ·rw[if_pos e];simp[h,e]
 ·rw[if_neg e];simp[h,e]
theorem DQ(H:Hd)(q:List (Int×Step))(d:Int)(u:Step)(h:¬(H u.1).isSome=true):AG (freeOf H q) d u=freeOf H (q++[(d,u)]):=by
 funext x
 unfold AG freeOf;rw[List.filterMap_append];by_cases e:x=d
 ·rw[if_pos e];simp[h,e]
 ·rw[if_neg e];simp[h,e]
theorem Ck(n:Nat)(h:List (Int×Int))(c0 c2 c4:Cell)(d:Int)(d0:0<=d)(d1:d<n):∀(w:List Step) (Q:List (Int×Step)) (c5 c6:Cell),(∀u∈w,0<=u.2/\u.2<n)->Q.length+w.length<=9000 ->
  ∃c5' c6',jf (bT [5,6]) pM (w.map (stG lbP)) [c0,.sh (aK h),c2,.sh (.int d),c4,c5,c6] (bR n (freeOf (hdF h) Q))=some ([c0,.sh (aK h),c2,.sh (.int d),c4,c5',c6'],bR n (freeOf (hdF h) (Q++w.map fun u=>(d,u))))
 |[],Q,c5,c6,_,_=>⟨c5,c6,by simp;rfl⟩
 |u::w,Q,c5,c6,hw,hl=>by
  rw[VX]at hl;obtain⟨u0,u1⟩:=hw u PU;obtain⟨c5',c6',e⟩:=Ck n h c0 c2 c4 d d0 d1 w (Q++[(d,u)]) (.sh (lbP u.1)) (.sh (.int u.2)) (fun v hv=>hw v (Ds _ hv)) (by rw[Vn,W4];lia);refine⟨c5',c6',?_⟩;rw[gV,jf];have fl1:=xS (hdF h) Q d;have fl2:=xS (hdF h) Q u.2;have ht:tV (e2 o6 (eV 5) (eV 1)) [c0,.sh (aK h),c2,.sh (.int d),c4,.sh (lbP u.1),.sh (.int u.2)]=some ((hdF h u.1).isSome,[c0,.sh (aK h),c2,.sh (.int d),c4,.sh (lbP u.1),.sh (.int u.2)]):=by refine ZJ (Y_ (X_ (V_ rfl (V_ rfl (ZY (i:=u.1 / 20) (j:=u.1 % 20) (YY ?_) rfl rfl)))));rw[kR,WK];exact⟨rfl,rfl⟩
  have h1:pM [c0,.sh (aK h),c2,.sh (.int d),c4,.sh (lbP u.1),.sh (.int u.2)] (bR n (freeOf (hdF h) Q))=some ([c0,.sh (aK h),c2,.sh (.int d),c4,.sh (lbP u.1),.sh (.int u.2)],bR n (freeOf (hdF h) (Q++[(d,u)]))):=by
   unfold pM nIf;rw[ht];by_cases q:(hdF h u.1).isSome=true
   ·rw[q];dsimp only;rw[AH n _ u.2 (u.1,d) u0 u1 (by lia) rfl rfl,Gm _ _ _ _ q]
   ·rw[Ys.mpr q];dsimp only;rw[AH n _ d u d0 d1 (by lia) rfl rfl,DQ _ _ _ _ q]
  show (match pM [c0,.sh (aK h),c2,.sh (.int d),c4,.sh (lbP u.1),.sh (.int u.2)] (bR n (freeOf (hdF h) Q)) with | none=>none | some (ρ2,r2)=>jf (bT [5,6]) pM (w.map (stG lbP)) ρ2 r2)=_;rw[h1];dsimp only;rw[e,Wa];rfl
noncomputable def prs(R:Int->List Step)(j k:Nat):List (Int×Step):=(YI j k).flatMap fun i:Nat=>(R i).map fun u=>((i:Int),u)
theorem Cm(n:Nat)(h:List (Int×Int))(R:Int->List Step)(hR:∀i:Nat,i<n->∀u∈R i,0<=u.2/\u.2<n)(hL:∀i:Nat,(R i).length<=400)(c0 c2:Cell):∀(k j:Nat) (Q:List (Int×Step)) (c3 c4 c5 c6:Cell),j+k<=n->Q.length+400*k<=9000 ->
  ∃c3' c4' c5' c6',jf (bT [3,4]) jP (rB j ((YI j k).map fun i:Nat=>rwG lbP (R i))) [c0,.sh (aK h),c2,c3,c4,c5,c6] (bR n (freeOf (hdF h) Q))=some ([c0,.sh (aK h),c2,c3',c4',c5',c6'],bR n (freeOf (hdF h) (Q++prs R j k)))
 |0,j,Q,c3,c4,c5,c6,_,_=>⟨c3,c4,c5,c6,by simp[prs];rfl⟩
 |k+1,j,Q,c3,c4,c5,c6,hj,hq=>by
  have l1:=hL j;obtain⟨c5',c6',e1⟩:=Ck n h c0 c2 (.sh (rwG lbP (R j))) (j:Int) (by lia) (by lia) (R j) Q c5 c6 (hR j (by lia)) (by lia);obtain⟨c3',c4',d5,d6,e2⟩:=Cm n h R hR hL c0 c2 k (j+1) (Q++(R j).map fun u=>((j:Int),u)) (.sh (.int (j:Int))) (.sh (rwG lbP (R j))) c5' c6' (by lia) (by rw[Vn,Pa];lia);refine⟨c3',c4',d5,d6,?_⟩;rw[List.range'_succ,gV];show jf (bT [3,4]) jP (.tup [.int (j:Int),rwG lbP (R j)]::rB (j+1) ((YI (j+1) k).map fun i:Nat=>rwG lbP (R i))) _ _=_;rw[jf];have h1:jP [c0,.sh (aK h),c2,.sh (.int (j:Int)),.sh (rwG lbP (R j)),c5,c6] (bR n (freeOf (hdF h) Q))=some ([c0,.sh (aK h),c2,.sh (.int (j:Int)),.sh (rwG lbP (R j)),c5',c6'],bR n (freeOf (hdF h) (Q++(R j).map fun u=>((j:Int),u)))):=by unfold jP rH;show (match some ((R j).map (stG lbP),_) with | none=>none | some (ds,ρ1)=>jf (bT [5,6]) pM ds ρ1 _)=_;exact e1
  show (match jP [c0,.sh (aK h),c2,.sh (.int (j:Int)),.sh (rwG lbP (R j)),c5,c6] (bR n (freeOf (hdF h) Q)) with | none=>none | some (ρ2,r2)=>jf (bT [3,4]) jP (rB (j+1) ((YI (j+1) k).map fun i:Nat=>rwG lbP (R i))) ρ2 r2)=_;rw[h1];dsimp only;rw[e2,Wa];unfold prs;rw[List.range'_succ,List.flatMap_cons]
theorem yR(n:Nat)(hn:n<=20)(h:List (Int×Int))(R:Int->List Step)(hR:∀i:Nat,i<n->∀u∈R i,0<=u.2/\u.2<n)(hL:∀i:Nat,(R i).length<=400):zF [rsG lbP n R,aK h]=some (.new (rsG lbP n (freeOf (hdF h) (prs R 0 n)))):=by
 have hz:SZ=100000:=rfl;obtain⟨c3,c4,c5,c6,e⟩:=Cm n h R hR hL (.sh (rsG lbP n R)) .un n 0 [] .un .un .un .un (by lia) (by simp;lia);obtain⟨c',eM⟩:=DO [.sh (rsG lbP n R),.sh (aK h),.un,.un,.un,.un,.un] 7 rfl (by decide) ((VO n).map fun i:Nat=>rwG lbP (R i)) .un;have hu:((VO n).map fun i:Nat=>rwG lbP (R i)).length=n:=by simp
 have e0:freeOf (hdF h) []=fun _=>[]:=by funext x;rfl
 rw[e0,zI,WW,<- List.range_eq_range']at e;have en:lN 2 (iS (eV 0)) 1 (bN 7) (rH (iEn (eV 0)) (bT [3,4]) jP) [.sh (rsG lbP n R),.sh (aK h),.un,.un,.un,.un,.un]=some (.nx [.sh (rsG lbP n R),.sh (aK h),.ow (rsG lbP n (freeOf (hdF h) (prs R 0 n))),c3,c4,c5,c6]):=by unfold lN;rw[if_neg (by decide)];show (if ((VO n).map fun i:Nat=>rwG lbP (R i)).length<=SZ then (match nMk (bN 7) ((VO n).map fun i:Nat=>rwG lbP (R i)) ([.sh (rsG lbP n R),.sh (aK h),.un,.un,.un,.un,.un]++[.un]) with | none=>none | some ρ2=>_) else none)=_;rw[if_pos (by rw[hu];lia),eM];dsimp only;rw[hu];have:rH (iEn (eV 0)) (bT [3,4]) jP [.sh (rsG lbP n R),.sh (aK h),.un,.un,.un,.un,.un] (Dp n [])=some ([.sh (rsG lbP n R),.sh (aK h),.un,c3,c4,c5,c6],bR n (freeOf (hdF h) (prs R 0 n))):=e;show (match rH (iEn (eV 0)) (bT [3,4]) jP [.sh (rsG lbP n R),.sh (aK h),.un,.un,.un,.un,.un] (Dp n []) with | none=>none | some (ρ3,r3)=>_)=_;rw[this];show some (Out.nx [.sh (rsG lbP n R),.sh (aK h),.ow (.lst ((bR n (freeOf (hdF h) (prs R 0 n))).map Dat.lst)),c3,c4,c5,c6])=_;rw[Ce]
 apply Za;unfold zF
 (refine Dm.Y4 ?_ rfl rfl;and_intros)
 refine YV ⟨_,en,?_⟩;refine Zb (Y0 rfl (Zq ?_ rfl));rfl
theorem xT(hp:Dr n r){H:Hd}:InR (freeOf H (prs (bh r) 0 n)) p s↔Fd.rL r H p s:=by
 unfold InR freeOf Fd.rL;rw[XD];constructor
 ·rintro⟨⟨d,u⟩,hm,e⟩;unfold prs at hm;obtain⟨i,hi,hm⟩:=List.mem_flatMap.mp hm;obtain⟨v,hv,e1⟩:=VE.mp hm;cases e1;obtain⟨h1,h2,h3⟩:=kT.mp hv;dsimp only at e;split at e
  ·rename_i q;split at e
   ·rename_i q2;cases e;exact⟨h1,.inr ⟨q,by rw[q2];exact h3,h2⟩⟩
   ·cases e
  ·rename_i q;split at e
   ·rename_i q2;cases e;exact⟨h1,.inl ⟨by simpa using q,by rw[q2];exact h2,h3⟩⟩
   ·cases e
 ·rintro⟨hm,h⟩;obtain⟨a0,a1,b0,b1⟩:=hp s.1 hm;refine⟨(Fd.src s.1,(s.1,Fd.dst s.1)),?_,?_⟩
  ·unfold prs;refine List.mem_flatMap.mpr ⟨(Fd.src s.1).toNat,List.mem_range'_1.mpr ⟨by lia,by lia⟩,VE.mpr ⟨(s.1,Fd.dst s.1),kT.mpr ⟨hm,by show Fd.src s.1=_;lia,rfl⟩,?_⟩⟩;rw[show (((Fd.src s.1).toNat:Nat):Int)=Fd.src s.1 by lia]
  ·dsimp only;rcases h with⟨q,h1,h2⟩ | ⟨q,h1,h2⟩
   ·rw[if_neg (by rw[q];decide),if_pos h1.symm,h2]
   ·rw[if_pos q,if_pos h1.symm,h2]
theorem L8{H:Hd}{S:Int->Bool}(h:∀c∈r,(H c).isSome=true->S (Fd.dst c)=false):0<=Fd.gD r H S:=by
 induction r with
 |nil=>exact Int.le_refl _
 |cons c r ih=>
  rw[Fd.gD];have:=ih fun d hd=>h d (Ds _ hd);have h2:0<=Fd.vd (H c) c S:=by
   unfold Fd.vd;split
   ·rename_i q;rw[h c PU q];cases S (Fd.src c)<;>decide
   ·exact Int.le_refl _
  lia
theorem L_(nd:r.Nodup){H:Hd}{x c d e:Int}(h0:Fd.gD r H (fun y=>decide (y=x))=0)(hc:c∈r)(lc:(H c).isSome=true)(sc:Fd.src c=x)(tc:Fd.dst c≠x)
  (hd:d∈r) (ld:(H d).isSome=true) (sd:Fd.src d=x) (td:Fd.dst d≠x) (only:∀z∈r,Fd.dst z=x->z=e) (he:e∈r) (le:(H e).isSome=true) (te:Fd.dst e=x) (se:Fd.src e≠x):c=d:=by
 refine Decidable.byContradiction fun ne=>?_;have ce:c≠e:=fun z=>tc (z▸te);have de:d≠e:=fun z=>td (z▸te);have v1:∀{z:Int},Fd.src z=x->Fd.dst z≠x->∀{o:Option Int},o.isSome=true->Fd.vd o z (fun y=>decide (y=x))=1:=fun {z} a b {o} k=>by unfold Fd.vd;rw[if_pos k];show one (decide (Fd.src z=x))-one (decide (Fd.dst z=x))=1;rw[decide_eq_true a,decide_eq_false b];rfl
 have v2:Fd.vd (H e) e (fun y=>decide (y=x))=-1:=by unfold Fd.vd;rw[if_pos le];show one (decide (Fd.src e=x))-one (decide (Fd.dst e=x))=-1;rw[decide_eq_false se,decide_eq_true te];rfl
 have v0:∀z,Fd.vd none z (fun y=>decide (y=x))=0:=fun z=>rfl;have f1:=Fd.mH nd hc H none (fun y=>decide (y=x));have f2:=Fd.mH nd hd (put H c none) none (fun y=>decide (y=x));have f3:=Fd.mH nd he (put (put H c none) d none) none (fun y=>decide (y=x));rw[v0,v1 sc tc lc]at f1;rw[v0,show put H c none d=H d by unfold put;rw[if_neg (fun z=>ne z.symm)],v1 sd td ld]at f2;rw[v0,show put (put H c none) d none e=H e by unfold put;rw[if_neg (fun z=>de z.symm),if_neg (fun z=>ce z.symm)],v2]at f3;have nn:0<=Fd.gD r (put (put (put H c none) d none) e none) (fun y=>decide (y=x)):=L8 fun z hz hs=>by refine decide_eq_false fun q=>?_;have:=only z hz q;subst this;unfold put at hs;rw[if_pos rfl]at hs;cases hs
 lia
theorem rN{R:Int->Step->Prop}:∀{w:List Step} {x y:Int},Way R x w y->w≠[]->∃w' p c,w=w'++[(c,y)]/\Way R x w' p/\R p (c,y)
 |[],x,y,h,ne=>(ne rfl).elim
 |[s],x,y,h,_=>by obtain⟨h1,h2⟩:=h;have h2:s.2=y:=h2;subst h2;exact⟨[],x,s.1,rfl,rfl,h1⟩
 |s::u::w,x,y,h,ne=>by obtain⟨w',p,c,e1,e2,e3⟩:=rN h.2 (List.cons_ne_nil u w);exact⟨s::w',p,c,by rw[e1];rfl,⟨h.1,e2⟩,e3⟩
theorem DR{R:Int->Step->Prop}{x y:Int}(h:Way R x w y)(ne:x≠y):w≠[]:=fun e=>by subst e;exact ne h
structure Jm(n:Nat)(r:List Tie)(A:List Int):Prop where
 nd:A.Nodup
 dr:Dr (2*n) A
 mem:∀c,c∈A↔(∃t∈r,t.a≠t.b/\(c=cd n t.a t.b\/c=cd n t.b t.a))\/∃p:Nat,p<n/\c=20*(p:Int)+((n:Int)+p)
theorem rO(n:Nat)(n10:n<=10)(r:List Tie)(hp:Pl n r):Jm n r (hk (cX n r)++thr n):=by
 have m:=AI n r;have k1:∀c∈hk (cX n r),(n:Int)<=Fd.src c/\Fd.src c<2*n/\0<=Fd.dst c/\Fd.dst c<n:=fun c hc=>by
  obtain⟨t,ht,ne,h⟩:=(m.mem c).mp hc;obtain⟨p1,p2,p3,p4⟩:=hp t ht;unfold Fd.src Fd.dst;rcases h with rfl | rfl
  ·obtain⟨e1,e2⟩:=AJ (n:=n) (u:=t.a) (v:=t.b) p3 (by lia);rw[e1,e2];exact⟨by lia,by lia,p3,p4⟩
  ·obtain⟨e1,e2⟩:=AJ (n:=n) (u:=t.b) (v:=t.a) p1 (by lia);rw[e1,e2];exact⟨by lia,by lia,p1,p2⟩
 have k2:∀c,c∈thr n↔∃p:Nat,p<n/\c=20*(p:Int)+((n:Int)+p):=fun c=>by
  unfold thr;rw[VE];constructor
  ·rintro⟨p,h1,rfl⟩;exact⟨p,WE.mp h1,rfl⟩
  ·rintro⟨p,h1,rfl⟩;exact⟨p,WE.mpr h1,rfl⟩
 refine⟨WL.mpr ⟨m.nd,?_,fun x hx y hy=>?_⟩,fun c hc=>?_,fun c=>?_⟩
 ·unfold thr;exact WY.mpr (List.nodup_range.imp fun {a b} h z=>h (by lia))
 ·rintro rfl;obtain⟨p,h1,rfl⟩:=(k2 _).mp hy;have:=(k1 _ hx).1;unfold Fd.src at this
  lia
 ·rcases Vt.mp hc with hc | hc
  ·have:=k1 c hc
   lia
  ·obtain⟨p,h1,rfl⟩:=(k2 c).mp hc;unfold Fd.src Fd.dst
   lia
 ·rw[Vt,m.mem c,k2 c]
theorem AK(n10:n<=10){r:List Tie}(D:Jm n r A)(hp:Pl n r)(hc:c∈A)(h:(n:Int)<=Fd.dst c):Fd.src c=Fd.dst c-n/\Fd.src c<n:=by
 rcases (D.mem c).mp hc with⟨t,ht,ne,k⟩ | ⟨p,h1,rfl⟩
 ·have:=hp t ht;unfold Fd.dst at h;unfold cd at k
  lia
 ·unfold Fd.src Fd.dst
  lia
theorem Ma(n10:n<=10){r:List Tie}(hp:Pl n r)(D:Jm n r A){H:Hd}{a b:Int}{k:Nat}(a0:0<=a)(a1:a<n)(b0:0<=b)(b1:b<n)(hab:∀t∈r,¬((t.a=a/\t.b=b)\/(t.a=b/\t.b=a)))(F:Fd.Flow A H ((n:Int)+a) b k)
  {S:Int->Prop} (hS:∀x,S x->x≠(n:Int)+a->∃p c,S p/\Fd.rL A H p (c,x)) (hb:¬S b) {w:List Step} (hw:DJ (Fd.Led A H) ((n:Int)+a) w b):∃c∈mso w,Fd.src c<n/\¬S (Fd.dst c):=by
 obtain⟨w1,w2⟩:=hw;obtain⟨w',p,c,e1,e2,e3⟩:=rN w1 (DR w1 (by lia));obtain⟨hc,lc,sc,tc⟩:=e3;dsimp only at hc lc sc tc;have hu:(n:Int)<=p/\p≠(n:Int)+a:=by
  rcases (D.mem c).mp hc with⟨t,ht,ne,q⟩ | ⟨z,h1,rfl⟩
  ·have:=hp t ht;have h2:=hab t ht;unfold Fd.src at sc;unfold Fd.dst at tc;unfold cd at q
   lia
  ·unfold Fd.dst at tc;have:(20*(z:Int)+((n:Int)+z)) % 20=(n:Int)+z:=by lia
   lia
 obtain⟨w'',p',d,f1,f2,f3⟩:=rN e2 (DR e2 (fun z=>hu.2 z.symm));obtain⟨hd,ld,sd,td⟩:=f3;dsimp only at hd ld sd td;obtain⟨g1,g2⟩:=AK n10 D hp hd (by rw[td];exact hu.1);refine⟨d,?_,g2,?_⟩
 ·rw[e1,f1];unfold mso;simp
 ·rw[td];intro hs;obtain⟨q,x,hq,hx,hf⟩:=hS p hs hu.2;have only:∀z∈A,Fd.dst z=p->z=d:=fun z hz hzp=>by
   obtain⟨k1,_⟩:=AK n10 D hp hz (by rw[hzp];exact hu.1);unfold Fd.src Fd.dst at *
   lia
  dsimp only at hx hf;rcases hf with⟨z1,z2,z3⟩ | ⟨z1,z2,z3⟩
  ·have:=only x hx z3;rw[this,ld]at z1;cases z1
  ·have h0:Fd.gD A H (fun y=>decide (y=p))=0:=by
    rw[F.eq];rw[decide_eq_false (fun z=>hu.2 z.symm),decide_eq_false (by lia)];simp
   have hx2:=(D.dr x hx)
   have e:=L_ D.nd h0 hc (by rw [lc];rfl) sc (by lia) hx z1 z3 (fun z=>by
    obtain⟨k1,_⟩:=AK n10 D hp hx (by rw[z];exact hu.1)
    lia) only hd (by rw[ld];rfl) td (by lia)
   apply hb;rw[<- tc,e,z2];exact hq
noncomputable def zL(n:Nat)(K:List Int)(c:Int):Bool:=decide (Fd.src c<n)&&!decide (Fd.dst c∈K)
noncomputable def EZ(n:Nat)(K:List Int)(w:List Step):List Int:=((mso w).filter (zL n K)).map Fd.src
noncomputable def AL(n:Nat)(K:List Int)(w:List Step):Int:=(EZ n K w).headD 0
theorem yS(n:Nat)(w:List Step)(s:Sr)(hl:w.length<=1000)(hx:∃c∈mso w,Fd.src c<n/\Fd.dst c∉sk s):B6 [.int n,msD w,.dct (sk s) (svG lbP s)]=some (.val (.int (AL n (sk s) w))):=by
 have hz:SZ=100000:=rfl;have ml:(mso w).length=w.length:=by simp[mso]
 apply Za;unfold B6
 (refine Dm.Y4 ?_ rfl rfl;and_intros)
 refine Zb (X_ (ZK lbP (mso w) (zL n (sk s)) Fd.src Dat.int (d:=msD w) ?_ rfl rfl rfl (by decide) (by lia) (fun c _=>?_) fun c _ _=>?_))
 ·refine YW ?_;obtain⟨c,hc,h1,h2⟩:=hx;have hm:c∈(mso w).filter (zL n (sk s)):=Wd.mpr ⟨hc,by unfold zL;rw[decide_eq_true h1,decide_eq_false h2];rfl⟩;have e:∃x r,EZ n (sk s) w=x::r:=by
   unfold EZ;cases q:(mso w).filter (zL n (sk s)) with
   |nil=>rw[q]at hm;cases hm
   |cons x r=>exact⟨_,_,rfl⟩
  obtain⟨x,r,e⟩:=e;show Wg2 gIx (some (.lst ((EZ n (sk s) w).map Dat.int))) _ _;unfold AL;rw[e];refine aaq (I_:=Dat.int) (xs:=x::r) (i:=0) (by decide) (by rw[VX];lia) ?_ rfl rfl;exact Zs rfl
 ·refine Zv (Y_ (X_ (X_ (V_ rfl (YW (Y5 ?_ rfl rfl rfl))))));refine V_ rfl (ZZ (YY ?_) rfl rfl);unfold zL;by_cases h:Fd.src c<n
  ·refine ZR (decide_eq_true h) (Y_ (X_ (X_ (V_ rfl (YW (Y5 ?_ rfl rfl rfl))))));refine V_ rfl (Z0 (YY ?_) rfl rfl);rw[mJ,decide_eq_true h];exact⟨rfl,rfl⟩
  ·refine Zx (decide_eq_false h) ?_;rw[decide_eq_false h];exact⟨rfl,rfl⟩
 ·exact X_ (V_ rfl (YW (Y5 (Y6 ⟨rfl,rfl⟩) rfl rfl rfl)))
noncomputable def kW(n:Nat)(r:List Tie):List Int:=hk (cX n r)++thr n
noncomputable def frR(n:Nat)(r:List Tie)(h:List (Int×Int)):Int->List Step:=freeOf (hdF h) (prs (bh (kW n r)) 0 (2*n))
noncomputable def SW(n:Nat)(r:List Tie)(w:List Step):List Int:=((mso w).filter fun c=>(hdF (cX n r) c).isSome).map fun c=>(hdF (cX n r) c).getD 0
noncomputable def u6(n:Nat)(r:List Tie)(w:List Step):Dat:=.lst ((SW n r w).map Dat.int)
noncomputable def Cn:Option (List Int)->Dat
 |none=>.non
 |some S=>.tup (S.map Dat.int)
structure UR(n:Nat)(r:List Tie)(a b:Int)(h:List (Int×Int))(ws:List (List Step))(s:Sr)(S:List Int):Prop where
 fnd:Fnd (2*n) (frR n r h) ((n:Int)+a) s
 cl:∀x∈sk s,Done (frR n r h) (sk s) x
 no:b∉sk s
 eq:S=rG ltI (ws.map (AL n (sk s)))
structure Around(n:Nat)(r:List Tie)(a b most:Int)(ws:List (List Step))(o:Option (List Int))(h:List (Int×Int)):Prop where
 hok:Hok (kW n r) h
 gD:Fd.Flow (kW n r) (hdF h) ((n:Int)+a) b ws.length
 ways:LZ (kW n r) (hdF h) ((n:Int)+a) b ws
 le:(ws.length:Int)<=most
 all:o=none->(ws.length:Int)=most
 shut:∀S,o=some S->(ws.length:Int)<most/\∃s,UR n r a b h ws s S
theorem E1{R:Int->Step->Prop}:∀{w:List Step} {x y:Int},Way R x w y->y∈x::w.map (·.2)
 |[],x,y,h=>by cases h;exact PU ..
 |s::w,x,y,h=>Ds _ (E1 h.2)
theorem Fnd.from{s:Sr}(h:Fnd n R a s)(hx:x∈sk s)(ne:x≠a):∃p c,p∈sk s/\InR R p (c,x):=by
 obtain⟨e,he,rfl⟩:=VE.mp hx;obtain⟨⟨w1,w2⟩,w3⟩:=h.way e he;obtain⟨w',p,c,e1,e2,e3⟩:=rN w1 (DR w1 (fun z=>ne z.symm));refine⟨p,c,w3 p ?_,e3⟩;have:=E1 e2;rw[e1,Vy];rcases Vq.mp this with z | z
 ·rw[z];exact PU ..
 ·exact Ds _ (VA _ z)
theorem Co(n:Nat)(r:List Tie)(n10:n<=10)(hl:r.length<=100):(kW n r).length<=400:=by
 have:=(AI n r).len;unfold kW;rw[Vn];simp[hk,thr]
 lia
theorem Mb(ws:List (List Step)):bu (.lst (ws.map msD))=true:=oG _ _ fun w=>oG _ _ Cc
end
section
variable(n:Nat)(n10:n<=10)(r:List Tie)(hp:Pl n r)(hl:r.length<=100)(a b:Int)(a0:0<=a)(a1:a<n)
include n10 hp hl a0 a1
theorem zM(h:List (Int×Int)):∃s:Sr,xK [rsG lbP (2*n) (frR n r h),.int ((n:Int)+a)]=some (.new (.dct (sk s) (svG lbP s)))/\Fnd (2*n) (frR n r h) ((n:Int)+a) s/\∀x∈sk s,Done (frR n r h) (sk s) x:=
 xN lbP (2*n) (by lia) (frR n r h) (fun i _ _ u hu=>(Cb (rO n n10 r hp).dr ((xT (rO n n10 r hp).dr).mp hu).along).2) _ (by lia) (by lia)
theorem zN(h:List (Int×Int)){s:Sr}(es:xK [rsG lbP (2*n) (frR n r h),.int ((n:Int)+a)]=some (.new (.dct (sk s) (svG lbP s))))(c1 c3 c4 c5 c6 c8 c9 c10 c11:Cell)(h6:c6=.ow (rsG lbP (2*n) (bh (kW n r)))\/c6=.sh (rsG lbP (2*n) (bh (kW n r)))){N:Env->Prop}{R:RV->Env->Prop}{B C:Env->Prop}
  (k:N [.sh (.int n),c1,.sh (.int a),c3,c4,c5,.sh (rsG lbP (2*n) (bh (kW n r))),.ow (aK h),.ow (.dct (sk s) (svG lbP s)),c9,c10,c11]) :
  Ws (sA 8 (eF xK [(tU zF [(eV 6),(eV 7)]),(e2 b_ (eV 0) (eV 2))])) [.sh (.int n),c1,.sh (.int a),c3,c4,c5,c6,.ow (aK h),c8,c9,c10,c11] N R B C:=by
 have ef:=yR (2*n) (by lia) h (bh (kW n r)) (fun i _ u hu=>by
  obtain⟨h1,h2,h3⟩:=kT.mp hu;have:=(rO n n10 r hp).dr u.1 h1
  lia) (fun i=>Nat.le_trans (pN _ _) (Co n r n10 hl))
 rcases h6 with rfl | rfl
 ·refine YX (Y8 (m_ (Zz (m_ (Y0 rfl (m_ (Y0 rfl (W_ ⟨_,_,_,rfl,ef,kU _ _,?_⟩)))))))) (by decide);refine m_ (X_ (V_ rfl (V_ rfl (Zd (W_ (Zk es (YZ k rfl) rfl rfl rfl rfl)) rfl rfl))))
 ·refine YX (Y8 (m_ (Zz (m_ (V_ rfl (m_ (Y0 rfl (W_ ⟨_,_,_,rfl,ef,kU _ _,?_⟩)))))))) (by decide);refine m_ (X_ (V_ rfl (V_ rfl (Zd (W_ (Zk es (YZ k rfl) rfl rfl rfl rfl)) rfl rfl))))
end
section
variable{ρ:Env}{Q:Val->Env->Prop}{ds:List Dat}{R:RV->Env->Prop}{N:Env->Prop}{n:Int}{o p:Option Dat}{B C:Env->Prop}{a b:Dat}{xs:List Val}{j:Nat}{x m:Int}{c:Bool}{f g:FS}
theorem Jo(n:Nat)(r:List Tie)(w:List Step)(hl:w.length<=1000)(pre:Env)(hpre:pre.length=12)(h5:pre[5]?=some (.ow (aK (cX n r)))) :
  We (bQ 12 1 (bN 13) (tV (e2 o6 (eV 13) (eV 5))) (e2 BV (eV 5) (eV 13))) (pre++[.sh (msD w)]) fun v ρ'=>Wk ρ' v fun d ρ''=>d=u6 n r w/\ρ''=pre++[.sh (msD w)]:=by
 have hz:SZ=100000:=rfl;have ml:(mso w).length=w.length:=by simp[mso]
 have g5:∀c:Cell,(pre++[.sh (msD w)]++[c])[5]?=some (.ow (aK (cX n r))):=fun c=>by rw[Wa,Vi (by lia)];exact h5
 have g13:∀c:Int,(pre++[.sh (msD w)]++[.sh (lbP c)])[13]?=some (.sh (lbP c)):=fun c=>by rw[Vs (by simp[hpre])];simp[hpre]
 refine ZK lbP (mso w) (fun c=>(hdF (cX n r) c).isSome) (fun c=>(hdF (cX n r) c).getD 0) Dat.int (d:=msD w) ?_ (by rw[Vs (by lia)];simp[hpre]) rfl (by simp[hpre]) (by decide) (by lia) (fun c _=>?_) fun c _ hc=>?_
 ·exact Zu ⟨rfl,rfl⟩
 ·refine Y_ (X_ (V_ (g13 c) (Y0 (g5 _) (ZY (i:=c / 20) (j:=c % 20) (ks:=hkP (cX n r)) (vs:=hv (cX n r)) (YY ?_) rfl (by show pk _ (.slot 5)=_;unfold pk;dsimp only;rw[g5];rfl)))));rw[kR,WK];exact⟨rfl,rfl⟩
 ·obtain⟨m,hm⟩:=VP.mp hc;refine X_ (Y0 (g5 _) (V_ (g13 c) (aap (i:=c / 20) (j:=c % 20) (ks:=hkP (cX n r)) (vs:=hv (cX n r)) (d:=.int m) (by rw[kR,hm];rfl) (Y6 ⟨?_,rfl⟩) (by show pk _ (.slot 5)=_;unfold pk;dsimp only;rw[g5];rfl) rfl)));rw[hm];rfl
theorem xU(n:Nat)(n10:n<=10)(r:List Tie)(hp:Pl n r)(hl:r.length<=100)(a b:Int)(a0:0<=a)(a1:a<n)(b0:0<=b)(b1:b<n)(hab:∀t∈r,¬((t.a=a/\t.b=b)\/(t.a=b/\t.b=a)))(most:Int)(m0:0<=most)(m1:most<=90) :
  ∃ws o h,B7 [.int n,cO r,.int a,.int b,.int most]=some (.val (.tup [.lst (ws.map (u6 n r)),Cn o]))/\Around n r a b most ws o h:=by
 suffices q:Wr (B7 [.int n,cO r,.int a,.int b,.int most]) fun v=>∃ws o h,v=.val (.tup [.lst (ws.map (u6 n r)),Cn o])/\Around n r a b most ws o h by obtain⟨v,h1,ws,o,h,rfl,h2⟩:=q;exact⟨ws,o,h,h1,h2⟩
 have hz:SZ=100000:=rfl;have D:=rO n n10 r hp;have mk:=AI n r;have rl:=Co n r n10 hl;have em:=DP n n10 r hp (by lia);have ed:=Jk n n10 (cX n r) (fun c hc=>D.dr c (VA _ hc)) (by have:=mk.len;lia);unfold B7
 (refine Dm.Y4 ?_ rfl rfl;and_intros)
 refine YV (YX (Y8 (m_ (V_ rfl (m_ (V_ rfl (W_ (Zk em (YZ ?_ (by trivial)) rfl rfl rfl rfl))))))) (by decide));refine YV (YX (Zz (m_ (V_ rfl (m_ (Y0 rfl (W_ ⟨_,_,_,rfl,ed,kU _ _,YZ ?_ (by trivial)⟩)))))) (by decide));refine YV (YX (aad (YZ ?_ (by trivial))) (by decide));obtain⟨s0,es0,F0,d0⟩:=zM n n10 r hp hl a a0 a1 [];refine YV (zN n n10 r hp hl a a0 a1 [] es0 _ _ _ _ _ _ _ _ _ (.inl rfl) ?_);refine YV (YX (YW (Y3 ?_ (by trivial))) (by decide));refine YV ?_;refine ZW (fun k ρ=>∃(h:List (Int×Int)) (s:Sr) (UO:Nat),ρ=[.sh (.int n),.sh (cO r),.sh (.int a),.sh (.int b),.sh (.int most),.ow (aK (cX n r)),.sh (rsG lbP (2*n) (bh (kW n r))),.ow (aK h),.ow (.dct (sk s) (svG lbP s)),.sh (.int (UO:Nat)),.un,.un]/\Hok (kW n r) h/\Fd.Flow (kW n r) (hdF h) ((n:Int)+a) b UO/\(UO:Int)<=most/\Fnd (2*n) (frR n r h) ((n:Int)+a) s/\(∀x∈sk s,Done (frR n r h) (sk s) x)/\k=(most-UO).toNat) ?_ 100 most.toNat _ (by lia)
  ⟨[],s0,0,rfl,Hok.nil _,Fd.Flow.zero _ _ _,m0,F0,d0,by simp⟩
 rintro k ρ ⟨h,s,UO,rfl,hok,fl,hle,F,hd,hk⟩;have Qi:(UO:Int)=most∨b∉sk s→Ws (aR (sA 10 (tU Gf [(eV 6),(eV 7),(e2 b_ (eV 0) (eV 2)),(eV 3),(eV 9)]))
  (aR (sA 11 (bQ 10 1 (bN 12) iE (bQ 12 1 (bN 13) (tV (e2 o6 (eV 13) (eV 5))) (e2 BV (eV 5) (eV 13)))))
  (aR (sIf (tV (e2 gEq (eV 9) (eV 4))) (sR (jy [(eV 11),(eC .non)])) sNx)
  (sR (jy [(eV 11),(eB tG [(eB kM [(bQ 10 1 (bN 12) iE (eFd B6 [(eV 0),(eV 12),(eV 8)]))])])]))))) [.sh (.int n),.sh (cO r),.sh (.int a),.sh (.int b),.sh (.int most),.ow (aK (cX n r)),.sh (rsG lbP (2*n) (bh (kW n r))),.ow (aK h),.ow (.dct (sk s) (svG lbP s)),.sh (.int (UO:Nat)),.un,.un]
   (fun _=>∃ws o h,RV.val .non=.val (.tup [.lst (ws.map (u6 n r)),Cn o])/\Around n r a b most ws o h) (fun v _=>∃ws o h,v=.val (.tup [.lst (ws.map (u6 n r)),Cn o])/\Around n r a b most ws o h) (fun _=>False) (fun _=>False):=fun hend=>by
  obtain⟨ws,ep,wl,W⟩:=Gj (2*n) (by lia) (kW n r) D.dr D.nd (by lia) h hok ((n:Int)+a) b (by lia) (by lia) UO (by lia) fl;have DK:∀w∈ws,w.length<=1000:=fun w hw=>by
   obtain⟨v1,v2⟩:=W.way w hw;have:=kB (w.map (·.1)) (kW n r) (Fd.pJ (fun p s h=>h.along) v1 v2) fun c hc=>by obtain⟨u,hu,rfl⟩:=VE.mp hc;exact DL (fun p s z=>z.along) v1 u hu
   rw[Pa]at this
   lia
  refine YV (YX (Zz (m_ (V_ rfl (m_ (Y0 rfl (m_ (X_ (V_ rfl (V_ rfl (Zd ?_ rfl rfl)))))))))) (by decide));refine m_ (V_ rfl (m_ (V_ rfl (W_ ⟨_,_,_,rfl,ep,Mb ws,YZ ?_ (by trivial)⟩))));refine YV (YX (aai msD ws id (u6 n r) ?_ rfl rfl rfl (by decide) (by lia) fun w hw=>Jo n r w (DK w hw) _ rfl rfl) (by decide));rw[Xv];refine YZ ?_ (by trivial);refine YV (Zo (Y_ (X_ (V_ rfl (V_ rfl (ZC (YY ?_) rfl rfl))))));refine Zi (fun he=>?_) fun he=>Zh ?_
  ·refine Zb (Zy (m_ (Y0 rfl (m_ (YW (W_ (Y7 ?_ rfl rfl (by exact Vk rfl))))))));exact⟨ws,none,h,rfl,⟨hok,by rw[wl];exact fl,W,by rw[wl];exact hle,fun _=>by rw[wl];exact he,fun S z=>nomatch z⟩⟩
  ·have hb:=hend.resolve_left he;have Qc:(UO:Int)<most:=by lia
   have hfs:∀w∈ws,∃c∈mso w,Fd.src c<n/\Fd.dst c∉sk s:=fun w hw=>
    Ma n10 hp D a0 a1 b0 b1 hab fl (S:=fun x=>x∈sk s) (fun x hx ne=>by
     obtain⟨p,c,k1,k2⟩:=Fnd.from F hx ne
     exact⟨p,c,k1,(xT D.dr).mp k2⟩) hb (W.way w hw)
   refine Zb (Zy (m_ (Y0 rfl (m_ (Zm (m_ (Zm (m_ ?_))))))));refine aai msD ws (AL n (sk s)) Dat.int ?_ rfl rfl rfl (by decide) (by lia) fun w hw=>?_
   ·refine W_ (aag ?_ rfl (by rw[Pa];lia));refine W_ (aaf (W_ (Y7 ?_ rfl rfl (by exact Vk rfl))) rfl);exact ⟨ws,some _,h,rfl,⟨hok,by rw [wl];exact fl,W,by rw [wl];exact hle,fun z=>(nomatch z),fun S z=>by cases z;exact⟨by rw[wl];exact Qc,s,F,hd,hb,rfl⟩⟩⟩
   ·refine aaE (m_ (V_ rfl (m_ (V_ rfl (m_ (Y0 rfl (W_ ⟨_,_,_,rfl,yS n w s (DK w hw) (hfs w hw),tW _,?_⟩)))))));exact Y6 ⟨rfl,rfl⟩
 refine Zv (Y_ (X_ (V_ rfl (V_ rfl (ZZ (YY ?_) rfl rfl)))));refine Zi (fun Qc=>?_) fun hge=>?_
 ·refine Y_ (X_ (V_ rfl (Y0 rfl (Z7 (YY ?_) rfl rfl))));rw[mJ];refine Zi (fun hb=>?_) fun hb=>Qi (.inr hb);unfold Je;obtain⟨w,t1,t2⟩:∃w,(b,w)∈s/\iF (sk s) (svG lbP s) b=some (rwG lbP w):=by
   rcases AA lbP s b with h | h
   ·exact h
   ·exact absurd hb h.1
  obtain⟨⟨w1,w2⟩,_⟩:=F.way _ t1;dsimp only at w1 w2;have w1':Way (Fd.rL (kW n r) (hdF h)) ((n:Int)+a) w b:=w1.mono fun _ _ z=>(xT D.dr).mp z;have wms:=DL (fun p s (z:Fd.rL (kW n r) (hdF h) p s)=>z.along) w1';have el:=yQ (kW n r) (by lia) h hok w wms;refine YV (ZV (Z_ (m_ (X_ (Y0 rfl (V_ rfl (ZX t2 (W_ (ZT el ?_ rfl rfl rfl)) rfl rfl))))) rfl));refine YV (YX (X_ (V_ rfl (YW (Zd (Y3 ?_ (by trivial)) rfl rfl)))) (by decide));have fl2:=fl.more D.nd w1' w2;rw[<- zH]at fl2;obtain⟨s1,es1,F1,d1⟩:=zM n n10 r hp hl a a0 a1 (cA h w);refine zN n n10 r hp hl a a0 a1 (cA h w) es1 _ _ _ _ _ _ _ _ _ (.inr rfl) ?_;refine⟨(most-(UO+1:Nat)).toNat,by rw[hk];lia,cA h w,s1,UO+1,?_,hok.Ji wms,fl2,by lia,F1,d1,rfl⟩;rw[show ((UO:Int)+1)=((UO+1:Nat):Int) by lia]
 ·exact Zx rfl (Qi (.inl (by lia)))
theorem Cp(i:Int):Jc [.int i]=some (.val (.bl true)):=by
 apply Za;unfold Jc
 (refine Dm.Y4 ?_ rfl rfl;and_intros)
 refine Zb (Zf (Ze (V_ rfl (Zc ?_ rfl rfl))));refine YY (Zr (aae (Ze (V_ rfl (Zc ?_ rfl rfl)))));exact YY rfl
theorem Gn(i lo hi:Int)(h0:lo<=i)(h1:i<=hi):B5 [.int i,.int lo,.int hi]=some (.val (.bl true)):=by unfold B5;simp[fn,sR,vh,eF,eAs,eV,pks,pk,Cp,RV.cu,RV.dat,lK,o9,gLe,h0,h1]
theorem mL(n i:Int)(h0:0<=i)(h1:i<n):rM [.int n,.int i]=some (.val (.bl true)):=by
 apply Za;unfold rM
 (refine Dm.Y4 ?_ rfl rfl;and_intros)
 refine Zb (Y8 (m_ (V_ rfl (m_ (YW (m_ (X_ (V_ rfl (YW (Zn ?_ rfl rfl))))))))));exact W_ (Y9 (Gn i 0 (n-1) h0 (by lia)) rfl rfl rfl)
theorem Mc(n a b:Int)(a0:0<=a)(a1:a<n)(b0:0<=b)(b1:b<n)(h:a≠b):lS [.int n,.int a,.int b]=some (.val (.bl true)):=by
 apply Za;unfold lS
 (refine Dm.Y4 ?_ rfl rfl;and_intros)
 refine Zb (Zf (Y8 (m_ (V_ rfl (m_ (V_ rfl (W_ (Y9 (mL n a a0 a1) ?_ rfl rfl))))))));refine YY (Zr (Zf (Y8 (m_ (V_ rfl (m_ (V_ rfl (W_ (Y9 (mL n b b0 b1) ?_ rfl rfl)))))))));refine YY (Zr (X_ (V_ rfl (V_ rfl (ZM ?_ rfl rfl)))));rw[decide_eq_false h];rfl
theorem AM(n a b:Int)(a0:0<=a)(a1:a<n)(b0:0<=b)(b1:b<n)(h:a≠b):Jd [.int n,.int a,.int b]=some (.val .non):=by
 apply Za;unfold Jd
 (refine Dm.Y4 ?_ rfl rfl;and_intros)
 refine Zo (ZD (Y_ (Y8 (m_ (V_ rfl (m_ (V_ rfl (m_ (V_ rfl (W_ (Y9 (Mc n a b a0 a1 b0 b1 h) ?_ rfl rfl)))))))))));exact YY (Zl (Zh rfl))
theorem Gp(i lo hi:Int)(h:¬(lo<=i/\i<=hi)):B5 [.int i,.int lo,.int hi]=some (.val (.bl false)):=by
 apply Za;unfold B5
 (refine Dm.Y4 ?_ rfl rfl;and_intros)
 refine Zb (Zf (Y8 (m_ (V_ rfl (W_ (Y9 (Cp i) (YY (Zr ?_)) rfl rfl))))));have e1:gLe (.int lo) (.int i)=some (.val (.bl (decide (lo<=i)))):=rfl;have e2:gLe (.int i) (.int hi)=some (.val (.bl (decide (i<=hi)))):=rfl;have e:o9 gLe gLe (eV 1) (eV 0) (eV 2) [.sh (.int i),.sh (.int lo),.sh (.int hi)]=some (.val (.bl false),[.sh (.int i),.sh (.int lo),.sh (.int hi)]):=by
  unfold o9;simp only[eV,XJ,WZ,pk,e1,e2,RV.cu];by_cases q:lo<=i
  ·rw[decide_eq_true q,decide_eq_false fun z=>h ⟨q,z⟩]
  ·rw[decide_eq_false q]
 exact⟨_,_,e,rfl⟩
theorem rP(n i:Int)(h:¬(0<=i/\i<n)):rM [.int n,.int i]=some (.val (.bl false)):=by
 apply Za;unfold rM
 (refine Dm.Y4 ?_ rfl rfl;and_intros)
 refine Zb (Y8 (m_ (V_ rfl (m_ (YW (m_ (X_ (V_ rfl (YW (Zn ?_ rfl rfl))))))))));exact W_ (Y9 (Gp i 0 (n-1) (by lia)) rfl rfl rfl)
theorem Jp(n:Int)(d1 d2:Dat)(h:rM [.int n,d1]=some (.val (.bl false))):lS [.int n,d1,d2]=some (.val (.bl false)):=by
 apply Za;unfold lS
 (refine Dm.Y4 ?_ rfl rfl;and_intros)
 exact Zb (Zf (Y8 (m_ (V_ rfl (m_ (V_ rfl (W_ (Y9 h (YY (Zl rfl)) rfl rfl))))))))
theorem Jq(n:Int)(d1 d2:Dat)(h1:rM [.int n,d1]=some (.val (.bl true)))(h:rM [.int n,d2]=some (.val (.bl false))):lS [.int n,d1,d2]=some (.val (.bl false)):=by
 apply Za;unfold lS
 (refine Dm.Y4 ?_ rfl rfl;and_intros)
 refine Zb (Zf (Y8 (m_ (V_ rfl (m_ (V_ rfl (W_ (Y9 h1 (YY (Zr ?_)) rfl rfl))))))));exact Zf (Y8 (m_ (V_ rfl (m_ (V_ rfl (W_ (Y9 h (YY (Zl rfl)) rfl rfl)))))))
theorem Cq(n p:Int)(h1:rM [.int n,.int p]=some (.val (.bl true))):lS [.int n,.int p,.int p]=some (.val (.bl false)):=by
 apply Za;unfold lS
 (refine Dm.Y4 ?_ rfl rfl;and_intros)
 refine Zb (Zf (Y8 (m_ (V_ rfl (m_ (V_ rfl (W_ (Y9 h1 (YY (Zr ?_)) rfl rfl))))))));refine Zf (Y8 (m_ (V_ rfl (m_ (V_ rfl (W_ (Y9 h1 (YY (Zr ?_)) rfl rfl)))))));refine X_ (V_ rfl (V_ rfl (ZM ?_ rfl rfl)));rw[decide_eq_true rfl];rfl
theorem Jr{f:List Dat->Option RV}{as:List FE}{ρ ρ1:Env}(h1:eAs as ρ=some (xs,ρ1))(h2:pks ρ1 xs=some ds)(h:f ds=none):eF f as ρ=none:=by unfold eF;rw[h1];dsimp only;rw[h2];dsimp only;rw[h]
theorem Js{e:FE}(h:e ρ=none):sE e ρ=none:=by unfold sE;rw[h]
theorem Jt{a b:FS}(h:a ρ=none):aR a b ρ=none:=by unfold aR;rw[h]
theorem Me{t:FT}{a b:FS}{ρ ρ1:Env}(ht:t ρ=some (c,ρ1))(h:(if c then a ρ1 else b ρ1)=none):sIf t a b ρ=none:=by unfold sIf;rw[ht];cases c<;>exact h
theorem US(h:f ρ=none)(k:Ws g ρ N R B C):Ws (sUn f g) ρ N R B C:=by obtain⟨o,e,q⟩:=k;exact⟨o,by unfold sUn;rw[h];exact e,q⟩
theorem Qg{Rr:Env->Option Env}{C ie:Nat}{h:FS}{ρ ρ1:Env}(e:Rr ρ=some ρ1)(h0:ie≠0){B D:Env->Prop}(k:Ws h (ρ1.set ie (.sh (.exc C))) (fun ρ'=>N (ρ'.set ie .un)) (fun r ρ'=>R r (ρ'.set ie .un)) (fun _=>False) (fun _=>False)):Ws (zw Rr C ie h) ρ N R B D:=by
 obtain⟨o,eo,q⟩:=k;cases o with
 |nx ρ'=>exact⟨.nx (ρ'.set ie .un),by unfold zw;rw[e];dsimp only;rw[if_neg h0,eo],q⟩
 |ret r ρ'=>exact⟨.ret r (ρ'.set ie .un),by unfold zw;rw[e];dsimp only;rw[if_neg h0,eo],q⟩
 |bk ρ'=>exact q.elim
 |ct ρ'=>exact q.elim
theorem zO{bad:List Dat->Bool}{fs:List FE}{ρ ρ1:Env}(h1:eAs fs ρ=some (xs,ρ1))(h2:pks ρ1 xs=some ds)(h:bad ds=true):xy bad fs ρ=some ρ1:=by unfold xy;rw[h1];dsimp only;rw[h2];dsimp only;rw[if_pos h]
theorem E2{n m:Nat}{body:FS}(h:body (ds.map Cell.sh++Dp m .un)=none):fn n m body ds=none:=by
 unfold fn;split
 ·rw[h]
 ·rfl
theorem E3{n m:Nat}{R:Env->Option Env}(hl:ds.length=n)(h:R (ds.map Cell.sh++Dp m .un)=some ρ):fnX n m R ds=true:=by unfold fnX;rw[h,decide_eq_true hl];rfl
theorem Ju(h:lS [.int n,a,b]=some (.val (.bl c))):(sV (tV (eF lS [(eV 0),(eV 1),(eV 2)]))) [.sh (.int n),.sh a,.sh b]=some (!c,[.sh (.int n),.sh a,.sh b]):=
 ZJ (ZD (Y_ (Y8 (m_ (V_ rfl (m_ (V_ rfl (m_ (V_ rfl (W_ (Y9 h (YY ⟨rfl,rfl⟩) rfl rfl)))))))))))
theorem xV(h:lS [.int n,a,b]=some (.val (.bl false))):Jd [.int n,a,b]=none:=E2 (Me (Ju h) rfl)
theorem Cr(h:lS [.int n,a,b]=some (.val (.bl false))):cz [.int n,a,b]=true:=E3 (ρ:=[.sh (.int n),.sh a,.sh b]) rfl (by show rIf _ _ _ [.sh (.int n),.sh a,.sh b]=_;unfold rIf;rw[Ju h];rfl)
theorem E4{x y:Tie}(h:x.m=y.m/\x.a=y.a/\x.b=y.b):x=y:=by cases x;cases y;obtain⟨h1,h2,h3⟩:=h;dsimp only at h1 h2 h3;rw[h1,h2,h3]
instance UT:DecidableEq Tie:=fun x y=>decidable_of_iff (x.m=y.m/\x.a=y.a/\x.b=y.b) ⟨E4,fun h=>by rw[h];exact⟨rfl,rfl,rfl⟩⟩
theorem Jv(u t:Tie):eqD (jQ u) (jQ t)=decide (u=t):=by rw[YH,decide_eq_true_iff];unfold jQ;simp[eqD,vj];exact⟨E4,fun h=>by rw[h];exact⟨rfl,rfl,rfl⟩⟩
theorem Qh(t:Tie)(K:List Tie):inD (jQ t) (K.map jQ)=decide (t∈K):=by
 induction K with
 |nil=>rfl
 |cons u K ih=>
  unfold inD at ih ⊢;rw[gV,WD,ih];by_cases h:t=u
  ·subst h;simp[Jv]
  ·have h':¬u=t:=fun z=>h z.symm;simp[Jv,h,h']
theorem Mf(K:List Tie):(K.map jQ).all (okD 7)=true:=by rw[List.all_map];exact Wv.mpr fun t _=>rfl
theorem aay{t:Tie}{K:List Tie}{Q:RV->Prop}(k:Q (.val (.bl (!decide (t∈K)))))(ho:o=some (jQ t))(hp:p=some (cO K)):Wg2 tF o p Q:=
 ⟨_,_,_,ho,hp,by unfold cO tF;dsimp only;rw[Mf,Qh];rfl,k⟩
noncomputable def xW(a b:Int)(t:Tie):Bool:=decide (a=t.a\/a=t.b)&&decide (b=t.a\/b=t.b)
noncomputable def Mg(t:Tie):Dat:=.lst [.int t.m]
noncomputable def oO(r:List Tie)(a b:Int):List Tie:=r.filter (xW a b)
noncomputable def yT(r:List Tie)(a b:Int):List Tie:=r.filter fun t=>!xW a b t
theorem DU(r:List Tie)(a b:Int):(r.filter fun t=>!decide (t∈oO r a b))=yT r a b:=by
 refine List.filter_congr fun t ht=>?_;unfold oO;cases h:xW a b t with
 |true=>rw[decide_eq_true (Wd.mpr ⟨ht,h⟩)]
 |false=>rw[decide_eq_false fun z=>by rw[(Wd.mp z).2]at h;cases h]
theorem yU(n:Nat)(n10:n<=10)(r:List Tie)(hp:Pl n r)(hl:r.length<=100)(a b:Int)(a0:0<=a)(a1:a<n)(b0:0<=b)(b1:b<n)(hab:a≠b)(most:Int)(m0:0<=most)(m1:most<=90) :
  ∃ws o h,B8 [.int n,cO r,.int a,.int b,.int most]=some (.val (.tup [.int (((oO r a b).take most.toNat).length+ws.length:Nat),.lst (((oO r a b).take most.toNat).map Mg++ws.map (u6 n (yT r a b))),Cn o]))/\Around n (yT r a b) a b (most-((oO r a b).take most.toNat).length) ws o h:=by
 have hz:SZ=100000:=rfl;have hpo:Pl n (yT r a b):=fun t ht=>hp t (Wd.mp ht).1;have hlo:(yT r a b).length<=r.length:=Xo _ _;have hls:(oO r a b).length<=r.length:=Xo _ _;have hno:∀t∈yT r a b,¬((t.a=a/\t.b=b)\/(t.a=b/\t.b=a)):=fun t ht k=>by
  have h2:xW a b t=false:=by simpa using(Wd.mp ht).2
  unfold xW at h2;rcases k with⟨rfl,rfl⟩ | ⟨rfl,rfl⟩
  ·rw[decide_eq_true (.inl rfl),decide_eq_true (.inr rfl)]at h2;cases h2
  ·rw[decide_eq_true (.inr rfl),decide_eq_true (.inl rfl)]at h2;cases h2
 have tl:((oO r a b).take most.toNat).length<=most.toNat:=by rw[V8];lia
 have tl2:((oO r a b).take most.toNat).length<=(oO r a b).length:=by rw[V8];lia
 have ct:LN (oO r a b) none (some most)=(oO r a b).take most.toNat:=by
  unfold LN sIx;simp
  lia
 generalize hst:(oO r a b).take most.toNat=st at tl tl2 ct
 obtain⟨ws,o,h,ew,A⟩:=xU n n10 (yT r a b) hpo (by lia) a b a0 a1 b0 b1 hno (most-st.length) (by lia) (by lia);have wl:=A.le;refine⟨ws,o,h,?_,A⟩;apply Za;unfold B8
 (refine Dm.Y4 ?_ rfl rfl;and_intros)
 refine YV (ZV (Y8 (m_ (V_ rfl (m_ (V_ rfl (m_ (V_ rfl (W_ (Y9 (AM n a b a0 a1 b0 b1 hab) ?_ rfl rfl))))))))));refine YV (YX (ZK jQ r (xW a b) id jQ (d:=cO r) ?_ rfl rfl rfl (by decide) (by lia) (fun t _=>?_) fun t _ _=>V_ rfl (Y6 ⟨rfl,rfl⟩)) (by decide))
 rotate_left
 ·refine Zv (Y_ (X_ (V_ rfl (Z1 (V_ rfl (Wp.some (YW (jl.mk (Wp.none ⟨[.int t.m,.int t.a,.int t.b],rfl,by show ¬(sIx 3 0 (some 1)=0/\sIx 3 3 none=3);decide,?_⟩)))))))));refine ZS (i:=a) (a:=t.a) (b:=t.b) (YY ?_) rfl rfl;unfold xW;by_cases h:a=t.a\/a=t.b
  ·refine ZR (decide_eq_true h) (Y_ (X_ (V_ rfl (Z1 (V_ rfl (Wp.some (YW (jl.mk (Wp.none ⟨[.int t.m,.int t.a,.int t.b],rfl,by show ¬(sIx 3 0 (some 1)=0/\sIx 3 3 none=3);decide,?_⟩)))))))));refine ZS (i:=b) (a:=t.a) (b:=t.b) (YY ?_) rfl rfl;rw[decide_eq_true h];exact⟨rfl,rfl⟩
  ·refine Zx (decide_eq_false h) ?_;rw[decide_eq_false h];exact⟨rfl,rfl⟩
 rw[Xv];refine YZ ?_ (by trivial);refine YV (YX (ZK jQ r (fun t=>!decide (t∈oO r a b)) id jQ (d:=cO r) ?_ rfl rfl rfl (by decide) (by lia) (fun t _=>?_) fun t _ _=>V_ rfl (Y6 ⟨rfl,rfl⟩)) (by decide))
 rotate_left
 ·exact Y_ (X_ (V_ rfl (Y0 rfl (aay (t:=t) (K:=oO r a b) (YY ⟨rfl,rfl⟩) rfl rfl))))
 rw[Xv,DU];refine YZ ?_ (by trivial);have hsl:iS (eSl (eV 5) none (some (eV 4))) [.sh (.int n),.sh (cO r),.sh (.int a),.sh (.int b),.sh (.int most),.ow (cO (oO r a b)),.ow (cO (yT r a b)),.un,.un]=some (st.map jQ,[.sh (.int n),.sh (cO r),.sh (.int a),.sh (.int b),.sh (.int most),.ow (cO (oO r a b)),.ow (cO (yT r a b)),.un,.un]):=by apply ZE;refine ZA (aao (Y0 rfl (Wp.none (Wp.some (V_ rfl (jl.mk ⟨_,rfl,?_⟩))))));rw[SJ,ct];exact Zu (jF ⟨rfl,rfl⟩)
 refine YV (YX (ZO jQ st id Mg ?_ hsl rfl (by decide) (by lia) fun t _=>?_) (by decide))
 rotate_left
 ·exact Zj (m_ (X_ (V_ rfl (YW (Y5 (W_ (Y7 (Zu ⟨rfl,rfl⟩) rfl rfl (by exact Vk rfl))) rfl rfl rfl)))))
 rw[Xv];refine YZ ?_ (by trivial);refine YV (YX (Y8 (m_ (V_ rfl (m_ (Y0 rfl (m_ (V_ rfl (m_ (V_ rfl (m_ (X_ (V_ rfl (Zm (m_ (Y0 rfl (W_ ⟨_,_,rfl,rfl,Zn ?_ rfl rfl⟩)))))))))))))))) (by decide));rw[Pa];refine W_ (Zk ew (Y3 ?_ (by trivial)) rfl rfl rfl rfl);refine YV (aav (ds0:=st.map Mg) (X_ (V_ rfl (YW (Y5 ?_ rfl rfl rfl)))) rfl);refine⟨ws.map (u6 n (yT r a b)),st.map Mg,_,rfl,rfl,rfl,?_,by rw[Pa,Pa];lia⟩;refine Zb (Zy (m_ (Zm (m_ (Y0 rfl (W_ ⟨_,_,rfl,rfl,?_⟩))))));refine m_ (Y0 rfl (m_ (X_ (V_ rfl (YW (Y5 (W_ (Y7 ?_ rfl rfl (by exact Vk rfl))) rfl rfl rfl))))));rw[Vn,Pa,Pa];exact Zs rfl
theorem jH(x n:Int)(h:1<=n):0<=x % n/\x % n<n:=⟨Int.emod_nonneg x (by lia),Int.emod_lt_of_pos x (by lia)⟩
noncomputable def at'(ns:List Int)(i:Int):Int:=ns.getD i.toNat 0
theorem Qj(ns:List Int)(i:Int)(h0:0<=i)(h1:i<ns.length):gIx (.lst (ns.map Dat.int)) (.int i)=some (.val (.int (at' ns i))):=by show (atI (ns.map Dat.int) i).map RV.val=_;rw[Dm.wC Dat.int ns i h0 h1];unfold at';rw[List.getD_eq_getElem?_getD,V2 (by lia)];rfl
theorem SX{ns:List Int}{i:Int}{K:RV->Prop}(h0:0<=i)(h1:i<ns.length)(k:K (.val (.int (at' ns i))))(ho:o=some (.lst (ns.map Dat.int)))(hp:p=some (.int i)):Wg2 gIx o p K:=⟨_,_,_,ho,hp,Qj ns i h0 h1,k⟩
noncomputable def gx(x:Int):Dat:=.lst [.int x]
theorem Mh(ns:List Int)(k:Int)(h0:0<=k):∃x,B9 [.lst (ns.map Dat.int),.int k]=some (.val (.int x)):=by
 suffices h:Wr (B9 [.lst (ns.map Dat.int),.int k]) fun v=>∃x,v=.val (.int x) by obtain⟨v,h1,c,rfl⟩:=h;exact⟨c,h1⟩
 unfold B9
 (refine Dm.Y4 ?_ rfl rfl;and_intros)
 repeat array_get_dec
 refine⟨fun h=>?_,fun h=>?_⟩
 ·have h:=of_decide_eq_true h
  repeat array_get_dec
  refine SX h0 (by simpa using h) ?_ rfl rfl;exact⟨_,rfl⟩
 ·repeat array_get_dec
  exact⟨_,rfl⟩
theorem E5(ns:List Int)(k:Int)(h0:0<=k)(h1:k<1000):∃x,zG [.lst (ns.map Dat.int),.int k]=some (.new (gx x)):=by
 suffices h:Wr (zG [.lst (ns.map Dat.int),.int k]) fun v=>∃x,v=.new (gx x) by obtain⟨v,h1,c,rfl⟩:=h;exact⟨c,h1⟩
 obtain⟨c,ec⟩:=Mh ns k h0;unfold zG
 (refine Dm.Y4 ?_ rfl rfl;and_intros)
 refine YV (YX (Y8 (m_ (V_ rfl (m_ (V_ rfl (W_ (Y9 ec ?_ rfl rfl))))))) (by decide));refine Y3 ?_ (by trivial);refine YV (Zo (Y_ (X_ (V_ rfl (X_ (YW (YW (ZQ (z:=1000000000000000000) ?_ rfl rfl (by decide) (by decide)))))))));refine aac (YY ?_) rfl rfl;refine⟨fun h=>?_,fun h=>?_⟩
 ·repeat array_get_dec
  exact⟨_,rfl⟩
 ·refine Zh ?_;refine YV (YX (YW (Y3 ?_ (by trivial))) (by decide));refine YV (Zp (ZH (YW (jl.mk ⟨?_,by decide,by decide⟩))));refine Zt (fun i:Nat=>Dat.int (0+(i:Nat))) _ _ (VO 48) _ _ _ _ _ (fun p q ρ=>∃(x:Int) (c4 c5:Cell),ρ=[.sh (.lst (ns.map Dat.int)),.sh (.int k),.sh (.int c),.sh (.int x),c4,c5]) ⟨_,_,_,rfl⟩ ?_ ?_
  ·rintro p i q ρ e ⟨x,c4,c5,rfl⟩;have hi:i<48:=WE.mp (by rw[e];simp);refine Dm.jG rfl (by trivial) ?_;unfold Jf;refine ZF (fun ρ=>∃y:Int,(0<=y/\y<2147483647)/\ρ=[.sh (.lst (ns.map Dat.int)),.sh (.int k),.sh (.int c),.sh (.int x),.sh (.int (0+(i:Nat))),.sh (.int y)]) ?_ ?_
   ·repeat array_get_dec
    ·exact⟨_,jH _ _ (by decide),rfl⟩
    all_goals unfold B64
    all_goals lia
   rintro ρ ⟨y,hy,rfl⟩;refine ZF (fun ρ=>∃y:Int,(0<=y/\y<2147483647)/\ρ=[.sh (.lst (ns.map Dat.int)),.sh (.int k),.sh (.int c),.sh (.int x),.sh (.int (0+(i:Nat))),.sh (.int y)]) ?_ ?_
   ·repeat array_get_dec
    ·exact⟨_,by have:=jH (y*y) 1000000007 (by decide);lia,rfl⟩
    ·exact .inl (by unfold B64;lia)
   rintro ρ ⟨z,hz,rfl⟩;refine ZF (fun ρ=>∃y:Int,(0<=y/\y<2147483647)/\ρ=[.sh (.lst (ns.map Dat.int)),.sh (.int k),.sh (.int c),.sh (.int x),.sh (.int (0+(i:Nat))),.sh (.int y)]) ?_ ?_
   ·repeat array_get_dec
    ·exact⟨_,by have:=jH ((z+7919*(0+((i:Nat):Int)))*69621) 2147483587 (by decide);lia,rfl⟩
   rintro ρ ⟨u,hu,rfl⟩
   repeat array_get_dec
   exact⟨_,_,_,rfl⟩
  ·rintro ρ ⟨x,c4,c5,rfl⟩
   repeat array_get_dec
   exact⟨_,rfl⟩
theorem Mi(x m:Int)(h0:0<m)(h1:m<tw):iG [gx x,.int m]=some (.val (.int (x % m)),gx (x / m)):=by
 suffices h:WrM (iG [gx x,.int m]) fun v d=>v=.val (.int (x % m))/\d=gx (x / m) by obtain⟨v,d,h1,rfl,rfl⟩:=h;exact h1
 unfold iG;refine Z2 ?_ rfl rfl;and_intros;unfold gx
 repeat array_get_dec
 ·refine aax ?_
  repeat array_get_dec
  ·refine⟨_,0,_,rfl,rfl,rfl,?_⟩
   repeat array_get_dec
   exact⟨_,rfl,rfl,rfl⟩
  ·exact⟨h0,h1⟩
 ·exact h0
def Wtk(j:Nat)(m:Int)(ρ1:Env)(Q:Val->Env->Prop):Prop:=∃x ρ3,Q (.val (.int (x % m))) ρ3/\ρ1[j]?=some (.ow (gx x))/\ρ1.set j (.ow (gx (x / m)))=ρ3/\0<m/\m<tw
theorem E6{ρ1 ρ3:Env}(q:Q (.val (.int (x % m))) ρ3)(h2:ρ1[j]?=some (.ow (gx x)))(hn:ρ1.set j (.ow (gx (x / m)))=ρ3)(h0:0<m)(h1:m<tw):Wtk j m ρ1 Q:=⟨_,_,q,h2,hn,h0,h1⟩
theorem Z4{a:FE}{d0:Dat}(h:We a ρ fun v ρ1=>jl v fun m=>Wtk j m ρ1 Q)(h0:ρ[j]?=some (.ow d0)):We (eFm iG j [a]) ρ Q:=by refine Z_ (m_ ?_) h0;obtain⟨v,ρ1,e1,m,rfl,x,ρ3,q,e2,e3,m0,m1⟩:=h;exact⟨_,_,e1,W_ (ZT (Mi x m m0 m1) q e2 rfl e3)⟩
theorem Zg{a:FE}(ha:a ρ=some (.val (.int m),ρ))(h0:0<m)(h1:m<tw)(hj:ρ[j]?=some (.ow (gx x)))(k:∀t x':Int,0<=t->t<m->∀ρ3,ρ.set j (.ow (gx x'))=ρ3->Q (.val (.int t)) ρ3):We (eFm iG j [a]) ρ Q:=
 Z4 ⟨_,_,ha,m,rfl,E6 (k _ _ (jH x m (by lia)).1 (jH x m (by lia)).2 _ rfl) hj rfl h0 h1⟩ hj
def Good(n:Int):Int->List Tie->Prop
 |_,[]=>True
 |lo,t::r=>lo<=t.m/\0<=t.a/\t.a<=t.b/\t.b<n/\Good n (t.m+1) r
theorem Good.pl{n:Nat}:∀{r:List Tie} {lo:Int},Good n lo r->Pl n r
 |[],_,_,t,ht=>by cases ht
 |u::r,lo,h,t,ht=>by
  obtain⟨h1,h2,h3,h4,h5⟩:=h;rcases Vq.mp ht with rfl | ht
  ·lia
  ·exact Good.pl h5 t ht
theorem Good.snoc:∀{r:List Tie} {lo hi:Int} {t:Tie},Good n lo r->(∀u∈r,u.m<hi)->lo<=hi->hi=t.m->0<=t.a->t.a<=t.b->t.b<n->Good n lo (r++[t])
 |[],_,_,_,_,_,h,e,h1,h2,h3=>⟨by lia,h1,h2,h3,trivial⟩
 |u::r,lo,hi,t,h,hu,hl,e,h1,h2,h3=>by obtain⟨k1,k2,k3,k4,k5⟩:=h;exact⟨k1,k2,k3,k4,Good.snoc k5 (fun v hv=>hu v (Ds _ hv)) (by have:=hu u PU;lia) e h1 h2 h3⟩
theorem Good.pl':∀{r:List Tie} {lo:Int},Good n lo r->∀t∈r,0<=t.a/\t.a<n/\0<=t.b/\t.b<n
 |[],_,_,t,ht=>by cases ht
 |u::r,lo,h,t,ht=>by
  obtain⟨h1,h2,h3,h4,h5⟩:=h;rcases Vq.mp ht with rfl | ht
  ·lia
  ·exact Good.pl' h5 t ht
theorem ix3(a b c:Int)(x:Int)(h0:0<=x)(h:x<3):gIx (.lst [.int a,.int b,.int c]) (.int x)=some (.val (.int (if x=0 then a else if x=1 then b else c))):=by
 have:x=0\/x=1\/x=2:=by lia
 rcases this with rfl | rfl | rfl<;>rfl
theorem Jw(r:List Tie)(i:Int)(h0:0<=i)(h1:i<r.length):gIx (cO r) (.int i)=some (.val (jQ (r[i.toNat]'(by omega)))):=by unfold cO gIx;dsimp only;rw[wC jQ r i h0 h1];rfl
noncomputable def RE(pool:Int)(n most many wide Qk:Int)(r:List Tie)(c7 c8 c9:Cell):Env:=
 [.ow (gx pool),.sh (.int n),.sh (.int most),.sh (.int many),.sh (.int wide),.sh (.int Qk),.ow (cO r),c7,c8,c9]
theorem Mj(a b:Int):(if b<a then b else a)<=(if b>a then b else a):=by split<;>split<;>lia
theorem Gq(x n most:Int)(n1:1<=n)(n10:n<=10)(m0:0<=most)(m60:most<=60) :
  ∃(r:List Tie) (x':Int),B_ [gx x,.int n,.int most]=some (.new (cO r),gx x')/\Good n 0 r/\(r.length:Int)<=most:=by
 suffices hh:WrM (B_ [gx x,.int n,.int most]) fun v d=>∃(r:List Tie) (x':Int),v=.new (cO r)/\d=gx x'/\Good n 0 r/\(r.length:Int)<=most by obtain⟨v,d,h1,h,x',rfl,rfl,h2⟩:=hh;exact⟨h,x',h1,h2⟩
 unfold B_;refine Z2 ?_ rfl rfl;and_intros;refine YV (YX ?_ (by decide));refine Zg (m:=most+1) rfl (by lia) (by unfold tw;lia) rfl fun many x1 h1 h2 ρ3 e=>?_;subst e;refine Y3 ?_ (by trivial);refine YV (YX ?_ (by decide));refine Zg (m:=3) rfl (by decide) (by decide) rfl fun wide x2 k1 k2 ρ3 e=>?_;subst e;refine Y3 ?_ (by trivial);refine YV (YX ?_ (by decide));refine Zg (m:=4) rfl (by decide) (by decide) rfl fun mo x3 w1 w2 ρ3 e=>?_;subst e;refine Y3 ?_ (by trivial);refine YV (YX (Zj (W_ (Y7 ?_ rfl rfl (by decide)))) (by decide));refine YZ ?_ (by trivial);refine YV (Zp (ZH (V_ rfl (jl.mk ⟨?_,by unfold BIG;lia⟩))));refine Zt (fun i:Nat=>Dat.int (0+(i:Nat))) _ _ (VO many.toNat) _ _ _ _ _ (fun p q ρ=>∃(x mo:Int) (r:List Tie) (c7 c8 c9:Cell),ρ=RE x n most many wide mo r c7 c8 c9/\p=VO p.length/\Good n 0 r/\r.length=p.length/\(∀u∈r,u.m<mo)/\0<=mo)
  ⟨_,_,[],_,_,_,rfl,rfl,trivial,rfl,(fun u hu=>by cases hu),w1⟩ ?_ ?_
 ·rintro p i q ρ e ⟨x,mo,r,c7,c8,c9,rfl,hpp,hg,hl,hu,hm⟩;have lp:(VO many.toNat).length=p.length+(q.length+1):=by rw[e];simp
  rw[Wl]at lp;have hi:i=p.length:=by
   have h1:(VO many.toNat)[p.length]?=some i:=by rw[e];simp
   rw[Xi (by lia)]at h1;exact(Option.some.inj h1).symm
  unfold RE;refine Dm.jG rfl (by trivial) ?_;unfold Jg;refine YV (YX ?_ (by decide));refine Zg (m:=n) rfl (by lia) (by unfold tw;lia) rfl fun one y1 o1 o2 ρ3 e1=>?_;subst e1;refine Y3 ?_ (by trivial);refine YV (YX ?_ (by decide));refine Zg (m:=n) rfl (by lia) (by unfold tw;lia) rfl fun oth y2 u1 u2 ρ3 e1=>?_;subst e1;refine Y3 ?_ (by trivial);refine ZF (fun ρ=>∃o:Int,(0<=o/\o<n)/\ρ=RE y2 n most many wide mo r (.sh (.int (0+(i:Nat)))) (.sh (.int one)) (.sh (.int o))) ?_ ?_
  ·refine Zo (Zv (Y_ (X_ (V_ rfl (YW (ZN (YY ?_) rfl rfl))))));refine Zi (fun _=>?_) fun _=>?_
   ·refine Y_ (X_ (V_ rfl (V_ rfl (ZC (YY ?_) rfl rfl))));refine Zi (fun _=>?_) fun _=>?_
    ·refine YX (X_ (X_ (V_ rfl (YW (Zd (V_ rfl (ZG ?_ rfl rfl (by lia))) rfl rfl))))) (by decide);exact Y3 ⟨_,jH _ n n1,rfl⟩ (by trivial)
    ·exact Zh ⟨oth,⟨u1,u2⟩,rfl⟩
   ·exact Zx rfl (Zh ⟨oth,⟨u1,u2⟩,rfl⟩)
  rintro ρ ⟨o,⟨q1,q2⟩,rfl⟩;refine ZF (fun ρ=>∃y v o:Int,(0<=v/\v<n)/\(0<=o/\o<n)/\ρ=RE y n most many wide mo r (.sh (.int (0+(i:Nat)))) (.sh (.int v)) (.sh (.int o))) ?_ ?_
  ·unfold RE;refine Zo (Zv (Y_ (X_ (V_ rfl (YW (ZN (YY ?_) rfl rfl))))));refine Zi (fun hk=>?_) fun _=>?_
   ·refine Y_ (X_ ?_);refine Zg (m:=4) rfl (by decide) (by decide) rfl fun t y3 t1 t2 ρ3 e1=>?_;subst e1;refine YW (ZC (YY ?_) rfl rfl);refine Zi (fun _=>?_) fun _=>?_
    ·have hj:(0:Int)<=0+((i:Nat):Int)-1:=by lia
     have hj2:0+((i:Nat):Int)-1<r.length:=by rw[hl];lia
     have pt:=hg.pl' (r[(0+((i:Nat):Int)-1).toNat]'(by lia)) (List.getElem_mem _);refine YV (YX (X_ (X_ (Y0 rfl (X_ (V_ rfl (YW (Zn ?_ rfl rfl))))))) (by decide));refine Y5 ?_ rfl rfl (Jw r _ hj hj2);refine YW (Y5 ?_ rfl rfl rfl);refine Y3 ?_ (by trivial);refine YX (X_ (X_ (Y0 rfl (X_ (V_ rfl (YW (Zn ?_ rfl rfl))))))) (by decide);refine Y5 ?_ rfl rfl (Jw r _ hj hj2);refine YW (Y5 ?_ rfl rfl rfl);exact Y3 ⟨_,_,_,⟨pt.1,pt.2.1⟩,⟨pt.2.2.1,pt.2.2.2⟩,rfl⟩ (by trivial)
    ·exact Zh ⟨_,_,_,⟨o1,o2⟩,⟨q1,q2⟩,rfl⟩
   ·exact Zx rfl (Zh ⟨_,_,_,⟨o1,o2⟩,⟨q1,q2⟩,rfl⟩)
  rintro ρ ⟨y4,v,o,⟨v1,v2⟩,⟨q1,q2⟩,rfl⟩;unfold RE;refine YV (ZL (Zy (m_ (V_ rfl (m_ (Zm (m_ (V_ rfl (m_ (V_ rfl (W_ (ZU ?_ rfl))))))))))) rfl);refine m_ (Zm (m_ (V_ rfl (m_ (V_ rfl (W_ (ZP ?_ rfl)))))));refine W_ (Y7 ?_ rfl rfl (by exact Vk rfl));refine Y6 (Az ?_ rfl (by trivial) (by rw[Pa];unfold SZ;lia));refine YX (X_ (X_ (V_ rfl (YW (Zd ?_ rfl rfl))))) (by decide);have w1':(0:Int)<(if wide=0 then 1 else if wide=1 then 3 else 1000)/\(if wide=0 then 1 else if wide=1 then 3 else 1000:Int)<2000:=by split;decide;split<;>decide
  refine X_ ?_;refine Z4 (X_ (Zj (m_ (YW (m_ (YW (m_ (YW (W_ (Y7 ?_ rfl rfl (by exact Vk rfl))))))))))) rfl;refine V_ rfl (Y5 ?_ rfl rfl (ix3 1 3 1000 wide k1 k2));refine jl.mk (E6 ?_ rfl rfl w1'.1 (by unfold tw;lia));have hm0:=jH y4 (if wide=0 then 1 else if wide=1 then 3 else 1000) (by lia);refine X_ (Zj (m_ (YW (m_ (YW (m_ (X_ (YW (YW (ZQ (z:=10000000000000000000000000) ?_ rfl rfl (by decide) (by decide)))))))))));refine W_ (Y7 ?_ rfl rfl (by exact Vk rfl));refine V_ rfl (Y5 ?_ rfl rfl (ix3 1 1 10000000000000000000000000 wide k1 k2));refine ZI ?_ rfl rfl (.inl (by unfold B64;lia));refine Zd ?_ rfl rfl;refine Y3 ?_ (by trivial)
  generalize hf:(if wide=0 then 1 else if wide=1 then 1 else 10000000000000000000000000:Int)=f
  have hf0:0<=f:=by rw[<- hf];split;decide;split<;>decide
  generalize (y4 % if wide=0 then 1 else if wide=1 then 3 else 1000:Int)=t at hm0 ⊢
  have tn:=Int.mul_nonneg hm0.1 hf0;refine⟨y4 / (if wide=0 then 1 else if wide=1 then 3 else 1000),mo+1+t*f,r++[⟨mo,(if o<v then o else v),(if o>v then o else v)⟩],.sh (.int (0+(i:Nat))),.sh (.int v),.sh (.int o),?_,?_,?_,by simp[hl],?_,by lia⟩
  ·unfold cO;rw[Vy];rfl
  ·rw[Vn,W4,List.range_succ,<- hpp,hi]
  ·refine Good.snoc (hi:=mo) hg hu hm rfl ?_ (Mj v o) ?_
   ·show 0<=(if o<v then o else v);split<;>lia
   ·show (if o>v then o else v)<n;split<;>lia
  ·intro u hu';rcases Vt.mp hu' with h | h
   ·have:=hu u h;lia
   ·rw[Vw.mp h];show mo<_;lia
 ·rintro ρ ⟨x,mo,r,c7,c8,c9,rfl,hpp,hg,hl,hu,hm⟩;unfold RE;refine Zb (Y0 rfl (Zq ?_ rfl));refine⟨_,rfl,r,x,rfl,rfl,hg,?_⟩;rw[hl,Wl]
  lia
theorem UU(k:Ws f ρ N R B C):Ws (sUn f g) ρ N R B C:=by obtain⟨o,e,q⟩:=k;exact⟨o,by unfold sUn;rw[e],q⟩
theorem Cs:∀{cs:List Nat} {bs:List Bool} {i:Nat} {C:Nat},cs.Nodup->cs.length=bs.length->cs[i]?=some C->yO cs bs C=some (bs.getD i false)
 |[],_,i,C,_,_,h=>by simp at h
 |c::cs,[],i,C,_,hl,_=>by simp at hl
 |c::cs,b::bs,0,C,_,_,h=>by cases h;unfold yO;rw[if_pos rfl];rfl
 |c::cs,b::bs,i+1,C,hn,hl,h=>by
  have hm:C∈cs:=WG h;have ne:C≠c:=fun z=>by subst z;exact(VI.mp hn).1 hm
  unfold yO;rw[if_neg ne,Cs (VI.mp hn).2 (by simpa using hl) h];rfl
def Isx(cs:List Nat)(e:Dat)(i:Nat):Prop:=∀bs:List Bool,cs.length=bs.length->fE cs bs e=some (.val (.bl (bs.getD i false)))
theorem SY{cs:List Nat}{i C:Nat}(hn:cs.Nodup)(h:cs[i]?=some C):Isx cs (.exc C) i:=fun bs hl=>by unfold fE;dsimp only;rw[Cs hn hl h];rfl
theorem UW:iR1 (eC (.int 11)) ρ=some ((VO 11).map fun i:Nat=>Dat.int (i:Int),ρ):=rfl
end
section
variable(x0 x1 x2 x3 x4 x5 x6 x7 x8 x9 x10:Nat)
noncomputable abbrev S0:List Nat:=[x0,x1,x2,x3,x4,x5,x6,x7,x8,x9,x10]
theorem Jx{e:Dat}(h:Isx (S0 x0 x1 x2 x3 x4 x5 x6 x7 x8 x9 x10) e 3):i9 x0 x1 x2 x3 x4 x5 x6 x7 x8 x9 x10 [e,.int 3]=some (.val (.bl true)):=by
 apply Za;unfold i9
 (refine Dm.Y4 ?_ rfl rfl;and_intros)
 refine YV (YX (Zj (m_ (Ze (V_ rfl (Zc ?_ rfl (h _ rfl)))))) (by decide));refine m_ (Ze (V_ rfl (Zc ?_ rfl (h _ rfl))));refine m_ (Ze (V_ rfl (Zc ?_ rfl (h _ rfl))));refine W_ (Y7 ?_ rfl rfl (by exact Vk rfl));refine YZ ?_ (by trivial);refine YV (YX (X_ (Y0 rfl (Zj (m_ (Ze (V_ rfl (Zc ?_ rfl (h _ rfl)))))))) (by decide));refine m_ (Ze (V_ rfl (Zc ?_ rfl (h _ rfl))));refine m_ (Ze (V_ rfl (Zc ?_ rfl (h _ rfl))));refine W_ (Y7 ?_ rfl rfl (by exact Vk rfl));refine Zw ?_ rfl rfl (by exact Vk rfl);refine YZ ?_ (by trivial);refine YV (YX (X_ (Y0 rfl (Zj (m_ (Ze (V_ rfl (Zc ?_ rfl (h _ rfl)))))))) (by decide));refine m_ (Ze (V_ rfl (Zc ?_ rfl (h _ rfl))));refine m_ (Ze (V_ rfl (Zc ?_ rfl (h _ rfl))));refine W_ (Y7 ?_ rfl rfl (by exact Vk rfl));refine Zw ?_ rfl rfl (by exact Vk rfl);refine YZ ?_ (by trivial);refine YV (YX (X_ (Y0 rfl (Zj (m_ (Ze (V_ rfl (Zc ?_ rfl (h _ rfl)))))))) (by decide));refine m_ (Ze (V_ rfl (Zc ?_ rfl (h _ rfl))));refine W_ (Y7 ?_ rfl rfl (by exact Vk rfl));refine Zw ?_ rfl rfl (by exact Vk rfl);refine YZ ?_ (by trivial);refine Zb (Zf (X_ (Y0 rfl ?_)));refine ZO (fun j:Nat=>Dat.int (j:Int)) (VO 11) (fun j:Nat=>decide ((j:Int)=((3:Nat):Int))) Dat.bl ?_ UW rfl (by decide) (by exact Vk rfl) fun j _=>X_ (V_ rfl (V_ rfl (ZC (Y6 ⟨rfl,rfl⟩) rfl rfl)));refine⟨_,_,.val (.bl true),rfl,rfl,rfl,YY (Zr ?_)⟩;exact Ze (V_ rfl (Zc (v:=.val (.bl true)) (Zs rfl) rfl (h _ rfl)))
theorem zP{n:Nat}{r:List Tie}{d1 d2:Dat}(h:lS [.int n,d1,d2]=some (.val (.bl false))):dc x0 x1 x2 x3 x4 x5 x6 x7 x8 x9 x10 [.int n,cO r,d1,d2]=some (.val (.exc x3)):=by
 have e1:B8 [.int n,cO r,d1,d2,.int 2]=none:=E2 (Jt (Js (Jr (ds:=[.int n,d1,d2]) rfl rfl (xV h))));have e2:c_ [.int n,cO r,d1,d2,.int 2]=true:=E3 rfl (zO (ds:=[.int n,d1,d2]) rfl rfl (Cr h));apply Za;unfold dc
 (refine Dm.Y4 ?_ rfl rfl;and_intros)
 refine YV (YX (YW (Y3 ?_ (by trivial))) (by decide));refine YV (US (Js (Jr (ds:=[.int n,cO r,d1,d2,.int 2]) rfl rfl e1)) (Qg (zO (ds:=[.int n,cO r,d1,d2,.int 2]) rfl rfl e2) (by decide) (YX (V_ rfl (Y3 ?_ (by trivial))) (by decide))));exact Zb (V_ rfl (Zs rfl))
theorem Gr{n:Nat}(n10:n<=10){r:List Tie}(hp:Pl n r)(hl:r.length<=100){a b:Int}(a0:0<=a)(a1:a<n)(b0:0<=b)(b1:b<n)(hab:a≠b):dc x0 x1 x2 x3 x4 x5 x6 x7 x8 x9 x10 [.int n,cO r,.int a,.int b]=some (.val .non):=by
 obtain⟨ws,o,h,e,_⟩:=yU n n10 r hp hl a b a0 a1 b0 b1 hab 2 (by decide) (by decide);apply Za;unfold dc
 (refine Dm.Y4 ?_ rfl rfl;and_intros)
 refine YV (YX (YW (Y3 ?_ (by trivial))) (by decide));refine YV (UU (ZV (Y8 (m_ (V_ rfl (m_ (V_ rfl (m_ (V_ rfl (m_ (V_ rfl (m_ (YW (W_ (Zk e ?_ rfl rfl rfl rfl)))))))))))))));exact Zb (V_ rfl (Zs rfl))
end
theorem aab{e:FE}{ρ ρ':Env}{x:Val}(h:We e ρ fun v r=>v=x/\r=ρ'):e ρ=some (x,ρ'):=by obtain⟨v,r,h,rfl,rfl⟩:=h;exact h
theorem Gs(n:Int)(d:Dat)(h:Jc [d]=some (.val (.bl false))):rM [.int n,d]=some (.val (.bl false)):=by
 have hw:∀lo hi:Int,B5 [d,.int lo,.int hi]=some (.val (.bl false)):=fun lo hi=>by
  apply Za;unfold B5
  (refine Dm.Y4 ?_ rfl rfl;and_intros)
  exact Zb (Zf (Y8 (m_ (V_ rfl (W_ (Y9 h (YY (Zl (Zs rfl))) rfl rfl))))))
 apply Za;unfold rM
 (refine Dm.Y4 ?_ rfl rfl;and_intros)
 refine Zb (Y8 (m_ (V_ rfl (m_ (YW (m_ (X_ (V_ rfl (YW (Zn ?_ rfl rfl))))))))));exact W_ (Y9 (hw 0 (n-1)) (Zs rfl) rfl rfl)
structure Odd(n:Nat)(a:Int)(d:Dat):Prop where
 l:lS [.int n,.int a,d]=some (.val (.bl false))
 r:lS [.int n,d,.int a]=some (.val (.bl false))
theorem kC{n:Nat}{a:Int}{d:Dat}(a0:0<=a)(a1:a<n)(h:rM [.int n,d]=some (.val (.bl false))):Odd n a d:=
 ⟨Jq n _ d (mL n a a0 a1) h,Jp n d _ h⟩
theorem Mk{n:Nat}{a u v:Int}{s:List Nat}(a0:0<=a)(a1:a<n)(u0:0<=u)(v0:0<=v):∀d∈([.int a,.int n,.int (-1),.int ((n:Int)+u),.int (-1-v),.bl true,.bl false,.non,.str s,.lst [.int a],.tup [.int a]]:List Dat),Odd n a d:=fun d hd=>by
 simp only[Vq,List.not_mem_nil,or_false]at hd;rcases hd with rfl | rfl | rfl | rfl | rfl | rfl | rfl | rfl | rfl | rfl | rfl
 ·exact⟨Cq n a (mL n a a0 a1),Cq n a (mL n a a0 a1)⟩
 ·exact kC a0 a1 (rP n _ (by lia))
 ·exact kC a0 a1 (rP n _ (by lia))
 ·exact kC a0 a1 (rP n _ (by lia))
 ·exact kC a0 a1 (rP n _ (by lia))
 all_goals exact kC a0 a1 (Gs n _ rfl)
theorem Ql(xs:List Dat)(i:Int)(h0:0<=i)(h1:i<xs.length):∃x∈xs,gIx (.lst xs) (.int i)=some (.val x):=by
 have hl:i.toNat<xs.length:=by lia
 refine⟨xs[i.toNat],List.getElem_mem hl,?_⟩;show ((ixN xs.length i).bind fun j=>xs[j]?).map RV.val=_;unfold ixN;rw[if_pos h0,if_pos h1,Option.bind_some,V2 hl];rfl
theorem zQ:∀r:List Tie,vj (r.map jQ) (r.map jQ)=true
 |[]=>rfl
 |t::r=>by rw[gV,vj,zQ r];simp[jQ,eqD,vj]
theorem Ml(r:List Tie):gNe (cO r) (cO r)=vB false:=by have o:okD 8 (cO r)=true:=SO jQ r fun _=>rfl;unfold gNe;rw[o];show vB (!vj _ _)=_;rw[zQ];rfl
theorem aaw{r:List Tie}{o p:Option Dat}{K:RV->Prop}(k:K (.val (.bl false)))(ho:o=some (cO r))(hp:p=some (cO r)):Wg2 gNe o p K:=⟨_,_,_,ho,hp,Ml r,k⟩
section
variable(x0 x1 x2 x3 x4 x5 x6 x7 x8 x9 x10:Nat)(hn:(S0 x0 x1 x2 x3 x4 x5 x6 x7 x8 x9 x10).Nodup)
include hn
theorem Jy(ns:List Int){n:Nat}(n1:1<=n)(n10:n<=6){i:Int}(i0:0<=i)(i1:i<1000)(c1 c4 c5 c6 c7 c8:Cell){N:Env->Prop}{R:RV->Env->Prop}{B C:Env->Prop}(k:∀c1 c4 c5 c6 c7 c8:Cell,N [.sh (.lst (ns.map Dat.int)),c1,.sh (.int n),.sh (.int i),c4,c5,c6,c7,c8]) :
  Ws (DG x0 x1 x2 x3 x4 x5 x6 x7 x8 x9 x10) [.sh (.lst (ns.map Dat.int)),c1,.sh (.int n),.sh (.int i),c4,c5,c6,c7,c8] N R B C:=by
 have hz:SZ=100000:=rfl;obtain⟨y0,ep⟩:=E5 ns i i0 i1;unfold DG;refine YV (YX (Y8 (m_ (V_ rfl (m_ (V_ rfl (W_ (Zk ep (YZ ?_ (by trivial)) rfl rfl rfl rfl))))))) (by decide));obtain⟨r,y1,er,rg,rl⟩:=Gq y0 n 6 (by lia) (by lia) (by decide) (by decide);have hp:Pl n r:=rg.pl;refine YV (YX (Z_ (m_ (V_ rfl (m_ (YW (W_ (ZT er (YZ ?_ (by trivial)) rfl rfl rfl)))))) rfl) (by decide));refine YV (YX (Zm (m_ (Y0 rfl (W_ ⟨_,_,rfl,rfl,YZ ?_ (by trivial)⟩)))) (by decide));refine YV (YX (Zg (m:=(n:Int)) rfl (by lia) (by unfold tw;lia) rfl fun a y2 a0 a1 ρ3 e=>?_) (by decide));subst e;refine Y3 ?_ (by trivial);refine YV (YX (Zj (m_ (V_ rfl (m_ (V_ rfl (m_ (Ze (YW (Zc ?_ rfl rfl))))))))) (by decide));refine m_ (X_ (V_ rfl (Zg (m:=10 ^ 59) (aab (X_ (YW (YW (ZQ (z:=10 ^ 59) ⟨rfl,rfl⟩ rfl rfl (by decide) (by decide)))))) (by decide) (by decide) rfl fun u y3 u0 u1 ρ3 e=>?_)));subst e;refine Zd ?_ rfl rfl;refine m_ (X_ (Ze (YW (Zc (v:=.val (.int (-1))) ?_ rfl rfl))));refine Zg (m:=99) rfl (by decide) (by decide) rfl fun v y4 v0 v1 ρ3 e=>?_;subst e;refine Zn ?_ rfl rfl;refine m_ (YW (m_ (YW (m_ (YW (W_ (Y7 ?_ rfl rfl (by exact Vk rfl))))))));refine YZ ?_ (by trivial);have es:zC [.int a]=some (.val (.str (codes (toString a)))):=by
  unfold zC;dsimp only;have UX:a.natAbs<10:=by lia
  rw[if_pos (Vr UX (by decide))]
 refine YV (YX (X_ (Y0 rfl (Zj (m_ (Zm (m_ (V_ rfl (W_ ⟨_,_,rfl,es,?_⟩)))))))) (by decide));refine m_ (Zj (m_ (V_ rfl (W_ (Y7 ?_ rfl rfl (by exact Vk rfl))))));refine m_ (Zy (m_ (V_ rfl (W_ (Y7 ?_ rfl rfl (by exact Vk rfl))))));refine W_ (Y7 ?_ rfl rfl (by exact Vk rfl));refine Zw ?_ rfl rfl (by exact Vk rfl);refine YZ ?_ (by trivial);have hodd:=Mk (n:=n) (a:=a) (u:=u) (v:=v) (s:=codes (toString a)) a0 a1 u0 v0
 generalize hL:([.int a,.int n,.int (-1),.int ((n:Int)+u),.int (-1-v),.bl true,.bl false,.non,.str (codes (toString a)),.lst [.int a],.tup [.int a]]:List Dat)=L at hodd
 have hLl:L.length=11:=by rw[<- hL];rfl
 show Ws _ [.sh (.lst (ns.map Dat.int)),.ow (gx y4),.sh (.int n),.sh (.int i),.ow (cO r),.ow (cO r),.sh (.int a),.ow (.lst [.int a,.int n,.int (-1),.int ((n:Int)+u),.int (-1-v),.bl true,.bl false,.non,.str (codes (toString a)),.lst [.int a],.tup [.int a]]),c8] _ _ _ _;rw[hL];refine YV (YX (X_ (Y0 rfl (Zg (m:=11) (aab (Zm (m_ (Y0 rfl (W_ ⟨_,_,rfl,rfl,?_⟩))))) (by decide) (by decide) rfl fun j y5 j0 j1 ρ3 e=>?_))) (by decide))
 ·rw[hLl];exact⟨rfl,rfl⟩
 subst e;obtain⟨d,hd,ed⟩:=Ql L j j0 (by rw[hLl];exact j1);refine Y5 (v:=d) (Y3 ?_ (by trivial)) rfl rfl ed;obtain⟨o1,o2⟩:=hodd d hd;have t1:=zP x0 x1 x2 x3 x4 x5 x6 x7 x8 x9 x10 (r:=r) o1;have t2:=zP x0 x1 x2 x3 x4 x5 x6 x7 x8 x9 x10 (r:=r) o2;have al:=Jx x0 x1 x2 x3 x4 x5 x6 x7 x8 x9 x10 (SY (i:=3) (C:=x3) hn rfl);refine YV (Zo (Z9 (ZD (Y_ (Y8 (m_ (Y8 (m_ (V_ rfl (m_ (Y0 rfl (m_ (V_ rfl (m_ (V_ rfl (W_ (Zk t1 ?_ rfl rfl rfl rfl)))))))))))))))));refine m_ (YW (W_ (Y9 al (YY (Zl ?_)) rfl rfl)));refine ZD (Y_ (Y8 (m_ (Y8 (m_ (V_ rfl (m_ (V_ rfl (m_ (V_ rfl (m_ (V_ rfl (W_ (Zk t2 ?_ rfl rfl rfl rfl))))))))))))));refine m_ (YW (W_ (Y9 al (YY (Zl (Zh ?_))) rfl rfl)));have last:∀{ρ:Env} {Q:Bool->Env->Prop},ρ=[.sh (.lst (ns.map Dat.int)),.ow (gx y5),.sh (.int n),.sh (.int i),.ow (cO r),.sh (cO r),.sh (.int a),.ow (.lst L),.sh d]->Q false ρ->Wt (tV (e2 gNe (eV 5) (eV 4))) ρ Q:=fun {ρ Q} e q=>by subst e;exact Y_ (X_ (V_ rfl (Y0 rfl (aaw (r:=r) (YY q) rfl rfl))))
 refine Zo (Z9 (Zv (Y_ (X_ (V_ rfl (YW (ZN (YY ?_) rfl rfl)))))));refine Zi (fun h2=>?_) fun h2=>Zl (last rfl (Zl (Zh (k _ _ _ _ _ _))));have am:=jH (a+1) n (by lia);have ane:a≠(a+1) % n:=fun z=>by
  by_cases q:a+1<n
  ·rw[Int.emod_eq_of_lt (by lia) q]at z;lia
  ·have:a+1=n:=by lia
   rw[this,Int.emod_self]at z
   lia
 have t3:=Gr x0 x1 x2 x3 x4 x5 x6 x7 x8 x9 x10 (n:=n) (by lia) hp (by lia) a0 a1 am.1 am.2 ane;refine Y_ (X_ (Y8 (m_ (V_ rfl (m_ (V_ rfl (m_ (V_ rfl (m_ (X_ (X_ (V_ rfl (YW (Zd ?_ rfl rfl))))))))))))));refine V_ rfl (ZG ?_ rfl rfl (by lia));refine W_ (Y9 t3 (YW (aat ?_ rfl rfl)) rfl rfl);exact YY (Zl (last rfl (Zl (Zh (k _ _ _ _ _ _)))))
theorem math(ns:List Int)(h:ns.length<=63):xM x0 x1 x2 x3 x4 x5 x6 x7 x8 x9 x10 [.lst (ns.map Dat.int)]=some (.val (.bl true)):=by
 apply Za;unfold xM
 (refine Dm.Y4 ?_ rfl rfl;and_intros)
 obtain⟨y0,ep⟩:=E5 ns 0 (by decide) (by decide);refine YV (YX (Y8 (m_ (V_ rfl (m_ (YW (W_ (Zk ep (YZ ?_ (by trivial)) rfl rfl rfl rfl))))))) (by decide));refine YV (YX (X_ (YW (Zg (m:=6) rfl (by decide) (by decide) rfl fun t y1 t0 t1 ρ3 e=>?_))) (by decide));subst e;refine Zd (Y3 ?_ (by trivial)) rfl rfl;obtain⟨n,hn1⟩:∃n:Nat,(1:Int)+t=(n:Nat):=⟨(1+t).toNat,by lia⟩
 rw[hn1];refine YV (Zp (aal (YW (jl.mk (Zm (m_ (YW (m_ (Zm (m_ (YW (m_ (Zm (m_ (V_ rfl (W_ (aak (I_:=Dat.int) (xs:=ns) ?_ rfl)))))))))))))))));refine W_ (ZU ?_ rfl);refine W_ (ZP ?_ rfl);have hb:∀z:Int,z=(if (ns.length:Int)<9 then (ns.length:Int) else 9)->(if z>2 then z else 2)<=9/\2<=(if z>2 then z else 2):=fun z hz=>by
  rw[hz];constructor
  ·split<;>split<;>lia
  ·split<;>lia
 have hb:=hb _ rfl
 generalize (if (if (ns.length:Int)<9 then (ns.length:Int) else 9)>2 then (if (ns.length:Int)<9 then (ns.length:Int) else 9) else 2)=top at hb ⊢
 refine jl.mk ⟨?_,by unfold BIG;lia⟩;refine Zt (fun i:Nat=>Dat.int (1+(i:Nat))) _ _ (VO (top-1).toNat) _ _ _ _ _ (fun p q ρ=>∃c1 c3 c4 c5 c6 c7 c8:Cell,ρ=[.sh (.lst (ns.map Dat.int)),c1,.sh (.int n),c3,c4,c5,c6,c7,c8]) ⟨_,_,_,_,_,_,_,rfl⟩ ?_ ?_
 ·rintro p i q ρ e ⟨c1,c3,c4,c5,c6,c7,c8,rfl⟩;have hi:i<(top-1).toNat:=WE.mp (by rw[e];simp);refine Dm.jG rfl (by trivial) ?_;exact Jy x0 x1 x2 x3 x4 x5 x6 x7 x8 x9 x10 hn ns (by lia) (by lia) (by lia) (by lia) _ _ _ _ _ _ fun c1 c4 c5 c6 c7 c8=>⟨_,_,_,_,_,_,_,rfl⟩
 ·rintro ρ ⟨c1,c3,c4,c5,c6,c7,c8,rfl⟩;exact Zb (YW rfl)
end
end P
namespace Q
open PySem L2 Br Dm P
noncomputable def top(i:Nat):Stmt:=PySem.Challenge.pw_sinceply_k44_place_pairs_refused.main.body.getD i (.Pass ⟨0,0,0,0⟩)
noncomputable def kD:Stmt:=match top 17 with
 |.ClassDef _ _ _ b _ _ _ _ _ _ _=>b.getD 0 (.Pass ⟨0,0,0,0⟩)
 |_=>.Pass ⟨0,0,0,0⟩
structure Txt(mg:Str->Option Value)(K:Dk)(base:Heap)(DV DX DY DZ D0 D3 D4 D5 Ct D6 xX xY xZ x_ u7 ya yb yc yd dg fG ye aB aq ah aC ak aj ai aD au av br az fF:Addr)(t8 yf yg yh yi yj yk yl ym u9 yo pO pP pQ pR mQ pS pT pU pV cB dh t9:FuncData):Prop where
 gF:mg "Clash" = some (.ref aB)
 di:mg "NoDeed" = some (.ref aq)
 bS:mg "NoLayers" = some (.ref ah)
 gG:mg "NoNet" = some (.ref aC)
 dj:mg "NoPair" = some (.ref ak)
 cg:mg "NoPaper" = some (.ref aj)
 bU:mg "NoPlaces" = some (.ref ai)
 gH:mg "NoRow" = some (.ref aD)
 dm:mg "NoText" = some (.ref au)
 dw:mg "NoTies" = some (.ref av)
 D7:mg "PlyError" = some (.ref br)
 dB:mg "Unlike" = some (.ref az)
 Mm:V9 "NoPlaces" ai bmV "ValueError.__new__" mg base
 bA:jC K ai
 Qn:V9 "NoTies" av bmV "ValueError.__new__" mg base
 bJ:jC K av
 Mn:V9 "NoLayers" ah bmV "ValueError.__new__" mg base
 bB:jC K ah
 D8:V9 "NoPair" ak bmV "ValueError.__new__" mg base
 bK:jC K ak
 QT:V9 "NoNet" aC bmV "ValueError.__new__" mg base
 bX:jC K aC
 Qo:V9 "Unlike" az bmV "ValueError.__new__" mg base
 bL:jC K az
 Qp:V9 "NoText" au bmV "ValueError.__new__" mg base
 bM:jC K au
 Nv:V9 "NoPaper" aj bmV "ValueError.__new__" mg base
 bF:jC K aj
 QU:V9 "NoRow" aD bmV "ValueError.__new__" mg base
 bY:jC K aD
 Qq:V9 "NoDeed" aq bmV "ValueError.__new__" mg base
 bO:jC K aq
 S1:SH "Clash" aB fF bmV "ValueError.__new__" K mg base
 S2:Yo K aB=true
 S3:Vj K (.ref aB) "moment" = some none
 S4:Vj K (.ref aB) "__setattr__" = some (some (.builtin "object.__setattr__"))
 S5:Yp K (.ref br) "__getattribute__" = some (some (.builtin "type.__getattribute__"))
 S6:PySem.W.readsIn K br (.type "type")=true
 S7:PySem.W.findCls K (.ref br) (.type "type") "__init__" = some (.val (.builtin "ValueError.__init__"))
 bZ:jC K aB
 oQ:eg K (.ref aB) (.type "ValueError")=some true
 mR:eg K (.ref aq) (.type "ValueError")=some true
 kX:eg K (.ref ah) (.type "ValueError")=some true
 oR:eg K (.ref aC) (.type "ValueError")=some true
 mS:eg K (.ref ak) (.type "ValueError")=some true
 lT:eg K (.ref aj) (.type "ValueError")=some true
 kY:eg K (.ref ai) (.type "ValueError")=some true
 oS:eg K (.ref aD) (.type "ValueError")=some true
 mT:eg K (.ref au) (.type "ValueError")=some true
 mU:eg K (.ref av) (.type "ValueError")=some true
 mV:eg K (.ref az) (.type "ValueError")=some true
 pW:PySem.W.Am K ak br
 yp:eg K (.ref aB) (.ref aB)=some true
 vp:eg K (.ref aB) (.ref aq)=some false
 rQ:eg K (.ref aB) (.ref ah)=some false
 yq:eg K (.ref aB) (.ref aC)=some false
 vq:eg K (.ref aB) (.ref ak)=some false
 t_:eg K (.ref aB) (.ref aj)=some false
 rR:eg K (.ref aB) (.ref ai)=some false
 yr:eg K (.ref aB) (.ref aD)=some false
 vt:eg K (.ref aB) (.ref au)=some false
 vv:eg K (.ref aB) (.ref av)=some false
 vz:eg K (.ref aB) (.ref az)=some false
 vA:eg K (.ref aq) (.ref aB)=some false
 ua:eg K (.ref aq) (.ref aq)=some true
 pX:eg K (.ref aq) (.ref ah)=some false
 vC:eg K (.ref aq) (.ref aC)=some false
 uc:eg K (.ref aq) (.ref ak)=some false
 rS:eg K (.ref aq) (.ref aj)=some false
 pY:eg K (.ref aq) (.ref ai)=some false
 vD:eg K (.ref aq) (.ref aD)=some false
 ud:eg K (.ref aq) (.ref au)=some false
 ue:eg K (.ref aq) (.ref av)=some false
 uf:eg K (.ref aq) (.ref az)=some false
 rT:eg K (.ref ah) (.ref aB)=some false
 pZ:eg K (.ref ah) (.ref aq)=some false
 mW:eg K (.ref ah) (.ref ah)=some true
 rV:eg K (.ref ah) (.ref aC)=some false
 p5:eg K (.ref ah) (.ref ak)=some false
 oU:eg K (.ref ah) (.ref aj)=some false
 mX:eg K (.ref ah) (.ref ai)=some false
 rW:eg K (.ref ah) (.ref aD)=some false
 p6:eg K (.ref ah) (.ref au)=some false
 p7:eg K (.ref ah) (.ref av)=some false
 p8:eg K (.ref ah) (.ref az)=some false
 yt:eg K (.ref aC) (.ref aB)=some false
 vE:eg K (.ref aC) (.ref aq)=some false
 rX:eg K (.ref aC) (.ref ah)=some false
 yu:eg K (.ref aC) (.ref aC)=some true
 vF:eg K (.ref aC) (.ref ak)=some false
 ug:eg K (.ref aC) (.ref aj)=some false
 rY:eg K (.ref aC) (.ref ai)=some false
 yw:eg K (.ref aC) (.ref aD)=some false
 vG:eg K (.ref aC) (.ref au)=some false
 vH:eg K (.ref aC) (.ref av)=some false
 vJ:eg K (.ref aC) (.ref az)=some false
 vK:eg K (.ref ak) (.ref aB)=some false
 uh:eg K (.ref ak) (.ref aq)=some false
 p9:eg K (.ref ak) (.ref ah)=some false
 vL:eg K (.ref ak) (.ref aC)=some false
 um:eg K (.ref ak) (.ref ak)=some true
 rZ:eg K (.ref ak) (.ref aj)=some false
 p_:eg K (.ref ak) (.ref ai)=some false
 vM:eg K (.ref ak) (.ref aD)=some false
 uo:eg K (.ref ak) (.ref au)=some false
 uq:eg K (.ref ak) (.ref av)=some false
 ur:eg K (.ref ak) (.ref az)=some false
 uu:eg K (.ref aj) (.ref aB)=some false
 r8:eg K (.ref aj) (.ref aq)=some false
 oV:eg K (.ref aj) (.ref ah)=some false
 uv:eg K (.ref aj) (.ref aC)=some false
 r9:eg K (.ref aj) (.ref ak)=some false
 qc:eg K (.ref aj) (.ref aj)=some true
 oW:eg K (.ref aj) (.ref ai)=some false
 uw:eg K (.ref aj) (.ref aD)=some false
 r_:eg K (.ref aj) (.ref au)=some false
 sj:eg K (.ref aj) (.ref av)=some false
 sq:eg K (.ref aj) (.ref az)=some false
 su:eg K (.ref ai) (.ref aB)=some false
 qd:eg K (.ref ai) (.ref aq)=some false
 mY:eg K (.ref ai) (.ref ah)=some false
 sC:eg K (.ref ai) (.ref aC)=some false
 qe:eg K (.ref ai) (.ref ak)=some false
 oX:eg K (.ref ai) (.ref aj)=some false
 mZ:eg K (.ref ai) (.ref ai)=some true
 sD:eg K (.ref ai) (.ref aD)=some false
 qf:eg K (.ref ai) (.ref au)=some false
 qg:eg K (.ref ai) (.ref av)=some false
 qh:eg K (.ref ai) (.ref az)=some false
 yx:eg K (.ref aD) (.ref aB)=some false
 vN:eg K (.ref aD) (.ref aq)=some false
 sF:eg K (.ref aD) (.ref ah)=some false
 yz:eg K (.ref aD) (.ref aC)=some false
 vO:eg K (.ref aD) (.ref ak)=some false
 ux:eg K (.ref aD) (.ref aj)=some false
 sG:eg K (.ref aD) (.ref ai)=some false
 yC:eg K (.ref aD) (.ref aD)=some true
 vP:eg K (.ref aD) (.ref au)=some false
 vQ:eg K (.ref aD) (.ref av)=some false
 vR:eg K (.ref aD) (.ref az)=some false
 vS:eg K (.ref au) (.ref aB)=some false
 uy:eg K (.ref au) (.ref aq)=some false
 qi:eg K (.ref au) (.ref ah)=some false
 vU:eg K (.ref au) (.ref aC)=some false
 uz:eg K (.ref au) (.ref ak)=some false
 sH:eg K (.ref au) (.ref aj)=some false
 qj:eg K (.ref au) (.ref ai)=some false
 vV:eg K (.ref au) (.ref aD)=some false
 uA:eg K (.ref au) (.ref au)=some true
 uB:eg K (.ref au) (.ref av)=some false
 uC:eg K (.ref au) (.ref az)=some false
 vW:eg K (.ref av) (.ref aB)=some false
 uD:eg K (.ref av) (.ref aq)=some false
 qk:eg K (.ref av) (.ref ah)=some false
 vX:eg K (.ref av) (.ref aC)=some false
 uE:eg K (.ref av) (.ref ak)=some false
 sI:eg K (.ref av) (.ref aj)=some false
 ql:eg K (.ref av) (.ref ai)=some false
 vY:eg K (.ref av) (.ref aD)=some false
 uF:eg K (.ref av) (.ref au)=some false
 uG:eg K (.ref av) (.ref av)=some true
 uH:eg K (.ref av) (.ref az)=some false
 vZ:eg K (.ref az) (.ref aB)=some false
 uI:eg K (.ref az) (.ref aq)=some false
 qo:eg K (.ref az) (.ref ah)=some false
 v5:eg K (.ref az) (.ref aC)=some false
 uJ:eg K (.ref az) (.ref ak)=some false
 sJ:eg K (.ref az) (.ref aj)=some false
 qp:eg K (.ref az) (.ref ai)=some false
 v7:eg K (.ref az) (.ref aD)=some false
 uK:eg K (.ref az) (.ref au)=some false
 uL:eg K (.ref az) (.ref av)=some false
 uM:eg K (.ref az) (.ref az)=some true
 bD:mg "ValueError" = none
 Qs:mg "bool" = none
 Qu:mg "dict" = none
 Cu:mg "enumerate" = none
 S8:mg "int" = none
 aa:mg "isinstance" = none
 Cv:mg "len" = none
 Jz:mg "list" = none
 Nx:mg "max" = none
 Ny:mg "min" = none
 kZ:mg "range" = none
 JA:mg "sorted" = none
 S9:mg "str" = none
 Mp:mg "tuple" = none
 UY:mg "led_steps" = some (.ref DV)
 Qv:mg "shortest_ways" = some (.ref DX)
 UZ:mg "lead_along" = some (.ref DY)
 U0:mg "parted" = some (.ref DZ)
 U1:mg "is_whole" = some (.ref D0)
 U3:mg "is_within" = some (.ref D3)
 S_:mg "is_place" = some (.ref D4)
 Tc:mg "is_pair" = some (.ref D5)
 Td:mg "look_at_pair" = some (.ref Ct)
 U4:mg "moments_of_steps" = some (.ref D6)
 Te:mg "steps_through_doors" = some (.ref xX)
 Nz:mg "free_doors" = some (.ref xY)
 Tf:mg "first_shut" = some (.ref xZ)
 Tg:mg "ways_around" = some (.ref x_)
 NB:mg "place_hang" = some (.ref u7)
 Th:mg "_law_cell_at" = some (.ref ya)
 NC:mg "_law_pool" = some (.ref yb)
 lP:mg "_law_take" = some (.ref yc)
 Ti:mg "_law_record" = some (.ref yd)
 u_:mg "_law_alone" = some (.ref dg)
 qq:mg "_law_told" = some (.ref fG)
 U9:mg "law" = some (.ref ye)
 Cw:Fun K "__init__" "Clash.__init__" kD fF t8
 Tj:Fun K "led_steps" "led_steps" (top 1) DV yf
 Mq:Fun K "shortest_ways" "shortest_ways" (top 2) DX yg
 Tn:Fun K "lead_along" "lead_along" (top 3) DY yh
 Qw:Binds K yf ["steps","heads"] []
 JB:Binds K yg ["steps","a"] []
 To:Fun K "parted" "parted" (top 4) DZ yi
 Tp:Fun K "is_whole" "is_whole" (top 19) D0 yj
 Qx:Binds K yj ["thing"] []
 Tq:Fun K "is_within" "is_within" (top 20) D3 yk
 Qy:Binds K yk ["thing","low","high"] []
 Qz:Fun K "is_place" "is_place" (top 21) D4 yl
 Mr:Binds K yl ["n","thing"] []
 QA:Fun K "is_pair" "is_pair" (top 22) D5 ym
 Ms:Binds K ym ["n","a","b"] []
 Mt:Fun K "look_at_pair" "look_at_pair" (top 23) Ct u9
 Tt:Fun K "moments_of_steps" "moments_of_steps" (top 27) D6 yo
 ND:Fun K "steps_through_doors" "steps_through_doors" (top 28) xX pO
 JC:Fun K "free_doors" "free_doors" (top 29) xY pP
 NF:Fun K "first_shut" "first_shut" (top 30) xZ pQ
 QB:Binds K yh ["heads","way"] []
 QC:Binds K yi ["steps","heads","a","b","count"] []
 QD:Binds K yo ["n","ties"] []
 JD:Binds K pO ["n","moments"] []
 E7:Binds K pP ["steps","heads"] []
 JE:Binds K pQ ["n","way","reached"] []
 NG:Fun K "ways_around" "ways_around" (top 26) x_ pR
 Mu:Binds K u9 ["n","a","b"] []
 JF:Binds K pR ["n","ties","a","b","most"] []
 E8:Fun K "place_hang" "place_hang" (top 25) u7 mQ
 NH:Fun K "_law_cell_at" "_law_cell_at" (top 32) ya pS
 JG:Binds K pS ["script","k"] []
 JH:Fun K "_law_pool" "_law_pool" (top 33) yb pT
 kE:Fun K "_law_take" "_law_take" (top 34) yc pU
 jI:Binds K pU ["pool","many"] []
 NI:Fun K "_law_record" "_law_record" (top 35) yd pV
 m5:Fun K "_law_alone" "_law_alone" (top 36) dg cB
 E9:Binds K mQ ["n","record","a","b","most"] []
 k6:Fun K "_law_told" "_law_told" (top 37) fG dh
 E_:Binds K pT ["script","at"] []
 JI:Binds K pV ["pool","n","most"] []
 jJ:Binds K cB ["caught","kind"] []
 jr:Binds K dh ["n","record","a","b"] []
 Tu:Fun K "law" "law" (top 38) ye t9
section
variable{P':Program}{w:World}{K:Dk}{mg:Str->Option Value}{base:Heap}{DV DX DY DZ D0 D3 D4 D5 Ct D6 xX xY xZ x_ u7 ya yb yc yd dg fG ye aB aq ah aC ak aj ai aD au av br az fF:Addr}
variable{t8 yf yg yh yi yj yk yl ym u9 yo pO pP pQ pR mQ pS pT pU pV cB dh t9:FuncData}
theorem Tv:bg ["steps","heads"] ["steps","heads"] (aF (top 1)):=fsc
theorem QE:(["steps","heads","row"]:List Str).Nodup:=by decide +kernel
theorem QF:(["steps","heads","row","step"]:List Str).Nodup:=by decide +kernel
theorem Cy:bg ["steps","a","ways","pending","place","step"] ["steps","a"] (aF (top 2)):=fsc
theorem JJ:bg ["heads","way","moment","place"] ["heads","way"] (aF (top 3)):=fsc
theorem zR:bg ["steps","heads","a","b","count","left","ways","time","way","moment"] ["steps","heads","a","b","count"] (aF (top 4)):=fsc
theorem QG:(["steps","heads","a","b","count","left","ways","time","way","moment","step"]:List Str).Nodup:=by decide +kernel
theorem Tw:bg ["thing"] ["thing"] (aF (top 19)):=fsc
theorem Tz:bg ["thing","low","high"] ["thing","low","high"] (aF (top 20)):=fsc
theorem TF:bg ["n","thing"] ["n","thing"] (aF (top 21)):=fsc
theorem TH:bg ["n","a","b"] ["n","a","b"] (aF (top 22)):=fsc
theorem NJ:bg ["n","a","b"] ["n","a","b"] (aF (top 23)):=fsc
theorem Cz:bg ["n","ties","moments","moment","a","b"] ["n","ties"] (aF (top 27)):=fsc
theorem AO:bg ["n","moments","steps","through","step"] ["n","moments"] (aF (top 28)):=fsc
theorem Mv:(["n","moments","steps","through","step","door"]:List Str).Nodup:=by decide +kernel
theorem Mw:(["n","moments","steps","through","step","place"]:List Str).Nodup:=by decide +kernel
theorem uN:bg ["steps","heads","free","door","row","step","onward"] ["steps","heads"] (aF (top 29)):=fsc
theorem Mx:(["steps","heads","free","door","%4","step","onward","row"]:List Str).Nodup:=by decide +kernel
theorem QH:bg ["n","way","reached"] ["n","way","reached"] (aF (top 30)):=fsc
theorem My:(["n","way","reached","step"]:List Str).Nodup:=by decide +kernel
theorem jR:bg ["n","ties","a","b","most","moments","steps","heads","reached","count","ways","told"] ["n","ties","a","b","most"] (aF (top 26)):=fsc
theorem Mz:(["n","ties","a","b","most","moments","steps","heads","reached","count","ways","told","way"]:List Str).Nodup:=by decide +kernel
theorem MA:(["n","ties","a","b","most","moments","steps","heads","reached","count","ways","told","way","step"]:List Str).Nodup:=by decide +kernel
theorem MB:(["n","ties","a","b","most","moments","steps","heads","reached","count","ways","told","way"]:List Str).Nodup:=by decide +kernel
theorem uO:bg ["n","record","a","b","most","straight","others","ways","around"] ["n","record","a","b","most"] (aF (top 25)):=fsc
theorem MC:(["n","record","a","b","most","straight","others","ways","around","tie"]:List Str).Nodup:=by decide +kernel
theorem MD:(["n","record","a","b","most","straight","others","ways","around","tie"]:List Str).Nodup:=by decide +kernel
theorem ME:(["n","record","a","b","most","straight","others","ways","around","tie"]:List Str).Nodup:=by decide +kernel
theorem QI:bg ["script","k"] ["script","k"] (aF (top 32)):=fsc
theorem m6:bg ["script","at","cell","big","turn","one"] ["script","at"] (aF (top 33)):=fsc
theorem JK:bg ["pool","many","number"] ["pool","many"] (aF (top 34)):=fsc
theorem jb:bg ["pool","n","most","many","wide","moment","record","k","a","b"] ["pool","n","most"] (aF (top 35)):=fsc
theorem gI:bg ["caught","kind","marks"] ["caught","kind"] (aF (top 36)):=fsc
theorem yV:(["caught","kind","marks","k"]:List Str).Nodup:=by decide +kernel
theorem jK:bg ["n","record","a","b","caught","e"] ["n","record","a","b"] (aF (top 37)):=fsc
theorem jt:bg ["script","pool","n","at","record","handed","a","some","odd"] ["script"] (aF (top 38)):=fsc
variable(T:Txt mg K base DV DX DY DZ D0 D3 D4 D5 Ct D6 xX xY xZ x_ u7 ya yb yc yd dg fG ye aB aq ah aC ak aj ai aD au av br az fF t8 yf yg yh yi yj yk yl ym u9 yo pO pP pQ pR mQ pS pT pU pV cB dh t9)
include T
theorem TJ :
  ck P' w K mg base CX0 1 DV yf ["steps","heads"] (spD Ja):=
 okQ T.Tj Tv fun _ _ _ _ _ _ hr=>(bq (s_r (zh 0 ["steps","heads"] ["row"] (c_n 2 QE rfl rfl) (d_v 0) (fun _ _ _ _ _=>pC) (fun _ _ _ _ _=>(zh 2 ["steps","heads","row"] ["step"] (c_n 3 QF rfl rfl) (d_v 2) (fun _ _ _ _ _=>xm (KW hr (LK hr (d_v 1) (i7 (d_v 3) d_i)) (i7 (d_v 3) d_i))) (fun _ _ _ _ _=>(d_v 3)))))))
theorem JL :
  ck P' w K mg base CX0 1 DX yg ["steps","a"] (spD xK):=
 okQ T.Mq Cy fun _ _ _ _ _ _ hr=>(aI (s_a 2 Cy.nd (Uv (d_v 1) (i8 aG)))
  (aI (s_a 3 Cy.nd (i8 (af (d_v 1) aG)))
  (aI (RT 100 V7 (Ux (d_v 3))
  (aI (s_a 4 Cy.nd (Ll 3 d_i))
  (bq (uS V7 rfl (i_S (i7 (d_v 0) (d_v 4))) (g_n 5 Cy.nd)
  (bq (xj (HY hr (i7 (d_v 5) d_i) (d_v 2)) (aI (O8 2 hr (i7 (d_v 5) d_i) (cN (O7 hr (d_v 2) (d_v 4)) (i8 (af (d_v 5) aG))))
  (bq (HM 3 (i7 (d_v 5) d_i)))) o4))))))
  (bq (s_r (d_v 2))))))
theorem TL :
  ck P' w K mg base CX0 1 DY yh ["heads","way"] (spM Jb):=by
 refine T.Tn.ok JJ (fun vs H Q E h=>we h) (fun cdv A outer s H vs Q E hr h=>?_);exact ⟨_,(bq (uS V7 rfl (i_S (d_v 1)) (g_t rfl (jj 2 JJ.nd (jj 3 JJ.nd Ad)))
  (bq (xj (Dy hr (d_v 2) (d_v 0)) (bq (s_e (EU 0 hr (d_v 2)))) (bq (Aw 0 hr (d_v 2) (d_v 3))))))),HV (n:=2) (m:=2) rfl h⟩
theorem TM :
  ck P' w K mg base CX0 2 DZ yi ["steps","heads","a","b","count"] (spD Gf):=
 okQ T.To zR fun _ _ _ _ _ _ hr=>(aI (s_a 5 zR.nd (LJ rfl T.Qu (af (d_v 1) aG)))
  (aI (s_a 6 zR.nd (i8 aG))
  (aI (uS V7 rfl (FW rfl T.kZ (af (d_v 4) aG)) (g_n 7 zR.nd)
  (aI (RX 8 ["steps","heads","a","b","count","left","ways","time","way","moment"] ["step"] zR.nd (c_n 10 QG rfl rfl) (i_S (O7 hr (b5 (JL T) (Br.hm hr) rfl T.Qv T.Mq.kp T.JB (af (mE (TJ T) (Br.hm hr) rfl T.UY T.Tj.kp T.Qw (af (d_v 0) (af (d_v 5) aG))) (af (d_v 2) aG))) (d_v 3))) (fun _ _ _ _ _=>pC) (fun _ _ _ _ _=>(i7 (d_v 10) d_i)))
  (aI (uS V7 rfl (i_S (d_v 8)) (g_n 9 zR.nd)
  (bq (s_e (EU 5 hr (d_v 9)))))
  (bq (HM 6 (d_v 8))))))
  (bq (s_r (d_v 6))))))
theorem TN :
  ck P' w K mg base CX0 1 D0 yj ["thing"] (spD Jc):=
 okQ T.Tp Tw fun _ _ _ _ _ _ hr=>(bq (s_r (Bl (M6 K2 (by rfl) rfl T.S8 rfl T.aa (d_v 0)) (Ez (RQ (M6 HN (by rfl) rfl T.Qs rfl T.aa (d_v 0)))))))
theorem TQ :
  ck P' w K mg base CX0 2 D3 yk ["thing","low","high"] (spD B5):=
 okQ T.Tq Tz fun _ _ _ _ _ _ hr=>(bq (s_r (Bl (b5 (TN T) (Br.hm hr) rfl T.U1 T.Tp.kp T.Qx (af (d_v 0) aG)) (Ez (K4 MP MW MP MW (d_v 1) (d_v 0) (d_v 2))))))
theorem NK :
  ck P' w K mg base CX0 3 D4 yl ["n","thing"] (spD rM):=
 okQ T.Qz TF fun _ _ _ _ _ _ hr=>(bq (s_r (b5 (TQ T) (Br.hm hr) rfl T.U3 T.Tq.kp T.Qy (af (d_v 1) (af d_i (af (Bj (d_v 0) d_i) aG))))))
theorem NL :
  ck P' w K mg base CX0 4 D5 ym ["n","a","b"] (spD lS):=
 okQ T.QA TH fun _ _ _ _ _ _ hr=>(bq (s_r (Bl (b5 (NK T) (Br.hm hr) rfl T.S_ T.Qz.kp T.Mr (af (d_v 0) (af (d_v 1) aG))) (Bl (b5 (NK T) (Br.hm hr) rfl T.S_ T.Qz.kp T.Mr (af (d_v 0) (af (d_v 2) aG))) (Ez (Ul hr (d_v 1) (d_v 2)))))))
theorem TR :
  ck P' w K mg base CX0 5 Ct u9 ["n","a","b"] (spD Jd):=
 okQ T.Mt NJ fun _ _ _ _ _ _ hr=>(bq (xj (EA (EB (b5 (NL T) (Br.hm hr) rfl T.Tc T.QA.kp T.Ms (af (d_v 0) (af (d_v 1) (af (d_v 2) aG)))))) (bq K0) o4))
theorem kF :
  ck P' w K mg base (CXE P' w ak) 5 Ct u9 ["n","a","b"] (spX ak cz):=by
 exact okY (n:=3) (m:=0) T.Mt NJ rfl rfl (fun cdv A outer s H E hr=>(ES (UK (EA (EB (b5 (NL T) (Br.hm hr) rfl T.Tc T.QA.kp T.Ms (af (d_v 0) (af (d_v 1) (af (d_v 2) aG)))))) (ES (y_x (x_raise T.D8 PySem.F.excBase_ValueError rfl))) UL)))
theorem TU :
  ck P' w K mg base CX0 1 D6 yo ["n","ties"] (spD LR):=
 okQ T.Tt Cz fun _ _ _ _ _ _ hr=>(aI (s_a 2 Cz.nd Nj)
  (aI (uS V7 rfl (i_S (d_v 1)) (g_t rfl (jj 3 Cz.nd (jj 4 Cz.nd (jj 5 Cz.nd Ad))))
  (bq (xj (RN hr (d_v 4) (d_v 5)) (aI (Aw 2 hr (l9 (af (cN (d_v 0) (d_v 4)) (af (d_v 5) aG))) (d_v 3))
  (bq (Aw 2 hr (l9 (af (cN (d_v 0) (d_v 5)) (af (d_v 4) aG))) (d_v 3)))) o4)))
  (bq (s_r (d_v 2)))))
theorem QJ :
  ck P' w K mg base CX0 1 xX pO ["n","moments"] (spD EY):=
 okQ T.ND AO fun _ _ _ _ _ _ hr=>(LM 2 ["n","moments","steps","through","step"] ["door"] AO.nd (c_n 5 Mv rfl rfl) (FW rfl T.kZ (af (oZ d_i (d_v 0)) aG)) (UM 3 ["n","moments","steps","through","step"] ["place"] AO.nd (c_n 5 Mw rfl rfl) (FW rfl T.kZ (af (d_v 0) aG)) (fun _ _ _ _ _=>pC) (fun _ _ _ _ _=>(l9 (af (d_v 5) (af (cN (d_v 0) (d_v 5)) aG))))) (Iv V7 rfl (i_S (cN (LB rfl rfl T.Jz (af (d_v 1) aG)) (d_v 3))) (g_n 4 AO.nd)
  (BK (Iw (i7 (d_v 4) d_i) (l9 (af (d_v 4) (af (i7 (d_v 4) d_i) aG))))))
  (bq (s_r (d_v 2))))
theorem JM :
  ck P' w K mg base CX0 1 xY pP ["steps","heads"] (spD zF):=
 okQ T.JC uN fun _ _ _ _ _ _ hr=>(PK 2 ["steps","heads","free","door","%4","step","onward"] ["row"] uN.nd (c_n 7 Mx rfl rfl) (i_S (d_v 0)) (Iv V7 rfl (Ut rfl T.Cu (d_v 0)) (g_t rfl (jj 3 uN.nd (jj 4 uN.nd Ad)))
  (BK (Iv V7 rfl (i_S (d_v 4)) (g_t rfl (jj 5 uN.nd (jj 6 uN.nd Ad)))
  (BK (UE (Dy hr (d_v 5) (d_v 1)) (BK (Iw (d_v 6) (l9 (af (d_v 5) (af (d_v 3) aG))))) (BK (Iw (d_v 3) (l9 (af (d_v 5) (af (d_v 6) aG))))))))))
  (bq (s_r (d_v 2))))
theorem QK :
  ck P' w K mg base CX0 1 xZ pQ ["n","way","reached"] (spD B6):=
 okQ T.NF QH fun _ _ _ _ _ _ hr=>(bq (s_r (i7 (zh 1 ["n","way","reached"] ["step"] (c_n 3 My rfl rfl) (d_v 1) (fun _ _ _ _ _=>xm (t_w (w_and (OW (i7 (d_v 3) d_i) (d_v 0)) (tL (HY hr (i7 (d_v 3) d_i) (d_v 2)))))) (fun _ _ _ _ _=>(i7 (d_v 3) d_i))) d_i)))
theorem QL :
  ck P' w K mg base CX0 3 x_ pR ["n","ties","a","b","most"] (spD B7):=
 okQ T.NG jR fun _ _ _ _ _ _ hr=>(aI (s_a 5 jR.nd (b5 (TU T) (Br.hm hr) rfl T.U4 T.Tt.kp T.QD (af (d_v 0) (af (d_v 1) aG))))
  (aI (s_a 6 jR.nd (mE (QJ T) (Br.hm hr) rfl T.Te T.ND.kp T.JD (af (d_v 0) (af (d_v 5) aG))))
  (aI (s_a 7 jR.nd Nj)
  (aI (s_a 8 jR.nd (b5 (JL T) (Br.hm hr) rfl T.Qv T.Mq.kp T.JB (af (mE (JM T) (Br.hm hr) rfl T.Nz T.JC.kp T.E7 (af (d_v 6) (af (d_v 7) aG))) (af (cN (d_v 0) (d_v 2)) aG))))
  (aI (s_a 9 jR.nd d_i)
  (aI (RT 100 V7 (t_w (w_and (OW (d_v 9) (d_v 4)) (tL (R4 hr (d_v 3) (d_v 8)))))
  (aI (s_e (cW (TL T) (Br.hm hr) rfl T.UZ T.Tn.kp T.QB (af (d_v 7) (af (O7 hr (d_v 8) (d_v 3)) aG))))
  (aI (s_a 9 jR.nd (cN (d_v 9) d_i))
  (bq (s_a 8 jR.nd (b5 (JL T) (Br.hm hr) rfl T.Qv T.Mq.kp T.JB (af (mE (JM T) (Br.hm hr) rfl T.Nz T.JC.kp T.E7 (af (d_v 6) (af (d_v 7) aG))) (af (cN (d_v 0) (d_v 2)) aG))))))))
  (aI (s_a 10 jR.nd (mE (TM T) (Br.hm hr) rfl T.U0 T.To.kp T.QC (@af _ _ _ _ _ (d_v 6) (@af _ _ _ _ _ (d_v 7) (@af _ _ _ _ _ (cN (d_v 0) (d_v 2)) (@af _ _ _ _ _ (d_v 3) (@af _ _ _ _ _ (d_v 9) aG rfl) rfl) rfl) rfl) rfl)))
  (aI (M7 11 10 ["n","ties","a","b","most","moments","steps","heads","reached","count","ways","told"] ["way"] jR.nd (c_n 12 Mz rfl rfl) (d_v 10) (fun _ _ _ _ _=>pC) (fun _ _ _ _ _=>(zh 12 ["n","ties","a","b","most","moments","steps","heads","reached","count","ways","told","way"] ["step"] (c_n 13 MA rfl rfl) (d_v 12) (fun _ _ _ _ _=>xm (Dy hr (d_v 13) (d_v 5))) (fun _ _ _ _ _=>(SG hr (d_v 5) (d_v 13))))))
  (aI (xj (KW hr (d_v 9) (d_v 4)) (bq (s_r (l9 (af (d_v 11) (af d_n aG))))) o4)
  (bq (s_r (l9 (af (d_v 11) (af (KZ rfl T.Mp (af (Ij rfl T.JA (af (zh 10 ["n","ties","a","b","most","moments","steps","heads","reached","count","ways","told"] ["way"] (c_n 12 MB rfl rfl) (d_v 10) (fun _ _ _ _ _=>pC) (fun _ _ _ _ _=>(IB (QK T) (Br.hm hr) rfl T.Tf T.NF.kp T.JE (af (d_v 0) (af (d_v 12) (af (d_v 8) aG)))))) aG)) aG)) aG))))))))))))))
theorem QM :
  ck P' w K mg base CX0 6 u7 mQ ["n","record","a","b","most"] (spD B8):=
 okQ T.E8 uO fun _ _ _ _ _ _ hr=>(aI (s_e (b5 (TR T) (Br.hm hr) rfl T.Td T.Mt.kp T.Mu (af (d_v 0) (af (d_v 2) (af (d_v 3) aG)))))
  (aI (s_a 5 uO.nd (zh 1 ["n","record","a","b","most","straight","others","ways","around"] ["tie"] (c_n 9 MC rfl rfl) (d_v 1) (fun _ _ _ _ _=>xm (t_w (w_and (RO hr (d_v 2) (M8 (d_v 9) (o_s d_i) o_n)) (tL (RO hr (d_v 3) (M8 (d_v 9) (o_s d_i) o_n)))))) (fun _ _ _ _ _=>(d_v 9))))
  (aI (M7 6 1 ["n","record","a","b","most","straight","others","ways","around"] ["tie"] uO.nd (c_n 9 MD rfl rfl) (d_v 1) (fun _ _ _ _ _=>xm (RP hr (d_v 9) (d_v 5))) (fun _ _ _ _ _=>(d_v 9)))
  (aI (RX 7 ["n","record","a","b","most","straight","others","ways","around"] ["tie"] uO.nd (c_n 9 ME rfl rfl) (i_S (Uq (d_v 5) o_n (o_s (d_v 4)))) (fun _ _ _ _ _=>pC) (fun _ _ _ _ _=>(i8 (af (i7 (d_v 9) d_i) aG))))
  (aI (s_a 8 uO.nd (b5 (QL T) (Br.hm hr) rfl T.Tg T.NG.kp T.JF (@af _ _ _ _ _ (d_v 0) (@af _ _ _ _ _ (d_v 6) (@af _ _ _ _ _ (d_v 2) (@af _ _ _ _ _ (d_v 3) (@af _ _ _ _ _ (Bj (d_v 4) (Bk rfl T.Cv (af (d_v 7) aG))) aG rfl) rfl) rfl) rfl) rfl)))
  (aI (Sg 7 (i7 (d_v 8) d_i))
  (bq (s_r (l9 (af (Bk rfl T.Cv (af (d_v 7) aG)) (af (d_v 7) (af (i7 (d_v 8) d_i) aG))))))))))))
theorem lU :
  ck P' w K mg base (CXE P' w ak) 6 u7 mQ ["n","record","a","b","most"] (spX ak c_):=by
 exact okY (n:=5) (m:=4) T.E8 uO rfl rfl (fun cdv A outer s H E hr=>(ES (y_x (Il (x_call (kF T) (Br.hm hr) rfl T.Td T.Mt.kp T.Mu Sj (af (d_v 0) (af (d_v 2) (af (d_v 3) aG))))))))
theorem QN :
  ck P' w K mg base CX0 1 ya pS ["script","k"] (spD B9):=
 okQ T.NH QI fun _ _ _ _ _ _ hr=>(aI (xj (OW (d_v 1) (Bk rfl T.Cv (af (d_v 0) aG))) (bq (s_r (i7 (d_v 0) (d_v 1)))) o4)
  (bq (s_r d_i)))
theorem JN :
  ck P' w K mg base CX0 2 yb pT ["script","at"] (spD zG):=
 okQ T.JH m6 fun _ _ _ _ _ _ hr=>(aI (s_a 2 m6.nd (b5 (QN T) (Br.hm hr) rfl T.Th T.NH.kp T.JG (af (d_v 0) (af (d_v 1) aG))))
  (aI (xj (Um (d_v 2) (HH d_i d_i)) (bq (s_r (i8 (af (d_v 2) aG)))) o4)
  (aI (s_a 3 m6.nd d_i)
  (aI (uS V7 rfl (FW rfl T.kZ (af d_i aG)) (g_n 4 m6.nd)
  (aI (s_a 5 m6.nd (uQ (oZ (cN (cN (cN (uQ (d_v 2) d_i) (oZ (oZ d_i (d_v 4)) (d_v 4))) (oZ d_i (d_v 1))) d_i) d_i) d_i))
  (aI (s_a 5 m6.nd (uQ (oZ (d_v 5) (d_v 5)) d_i))
  (aI (s_a 5 m6.nd (uQ (oZ (cN (d_v 5) (oZ d_i (d_v 4))) d_i) d_i))
  (bq (s_a 3 m6.nd (cN (oZ (d_v 3) d_i) (uQ (M0 (d_v 5) d_i) d_i))))))))
  (bq (s_r (i8 (af (d_v 3) aG))))))))
theorem jc :
  ck P' w K mg base CX0 1 yc pU ["pool","many"] (spM iG):=by
 refine T.kE.ok JK (fun vs H Q E h=>we h) (fun cdv A outer s H vs Q E hr h=>?_);exact ⟨_,(aI (s_a 2 JK.nd (uQ (i7 (d_v 0) d_i) (d_v 1)))
  (aI (RS 0 d_i (M0 (i7 (d_v 0) d_i) (d_v 1)))
  (bq (s_r (d_v 2))))),HV (n:=2) (m:=1) rfl h⟩
theorem QO :
  ck P' w K mg base CX0 2 yd pV ["pool","n","most"] (spM B_):=by
 refine T.NI.ok jb (fun vs H Q E h=>we h) (fun cdv A outer s H vs Q E hr h=>?_);exact ⟨_,(aI (s_a 3 jb.nd (cW (jc T) (Br.hm hr) rfl T.lP T.kE.kp T.jI (af (d_v 0) (af (cN (d_v 2) d_i) aG))))
  (aI (s_a 4 jb.nd (cW (jc T) (Br.hm hr) rfl T.lP T.kE.kp T.jI (af (d_v 0) (af d_i aG))))
  (aI (s_a 5 jb.nd (cW (jc T) (Br.hm hr) rfl T.lP T.kE.kp T.jI (af (d_v 0) (af d_i aG))))
  (aI (s_a 6 jb.nd (i8 aG))
  (aI (uS V7 rfl (FW rfl T.kZ (af (d_v 3) aG)) (g_n 7 jb.nd)
  (aI (s_a 8 jb.nd (cW (jc T) (Br.hm hr) rfl T.lP T.kE.kp T.jI (af (d_v 0) (af (d_v 1) aG))))
  (aI (s_a 9 jb.nd (cW (jc T) (Br.hm hr) rfl T.lP T.kE.kp T.jI (af (d_v 0) (af (d_v 1) aG))))
  (aI (xj (t_w (w_and (OX (d_v 4) d_i) (tL (KW hr (d_v 8) (d_v 9))))) (bq (s_a 9 jb.nd (uQ (cN (d_v 8) d_i) (d_v 1)))) o4)
  (aI (xj (t_w (w_and (OX (d_v 7) d_i) (tL (KW hr (cW (jc T) (Br.hm hr) rfl T.lP T.kE.kp T.jI (af (d_v 0) (af d_i aG))) d_i)))) (aI (s_a 8 jb.nd (i7 (i7 (d_v 6) (Bj (d_v 7) d_i)) d_i))
  (bq (s_a 9 jb.nd (i7 (i7 (d_v 6) (Bj (d_v 7) d_i)) d_i)))) o4)
  (aI (HM 6 (l9 (af (d_v 5) (af (HK rfl rfl T.Ny (af (d_v 8) (af (d_v 9) aG))) (af (HL rfl rfl T.Nx (af (d_v 8) (af (d_v 9) aG))) aG)))))
  (bq (s_a 5 jb.nd (cN (cN (d_v 5) d_i) (oZ (cW (jc T) (Br.hm hr) rfl T.lP T.kE.kp T.jI (af (d_v 0) (af (i7 (i8 (af d_i (af d_i (af d_i aG)))) (d_v 4)) aG))) (i7 (i8 (af d_i (af d_i (af (HH d_i d_i) aG)))) (d_v 4))))))))))))
  (bq (s_r (d_v 6)))))))),HV (n:=3) (m:=7) rfl h⟩
theorem sL :
  ck P' w K mg base CX0 1 dg cB ["caught","kind"] (spD (i9 ai av ah ak aC az au aj aD aq aB)):=
 okQ T.m5 gI fun _ _ _ _ _ _ hr=>(aI (s_a 2 gI.nd (i8 (af (ao (aA T.bA T.mZ rfl T.bU rfl T.aa (d_v 0)) (ao (aA T.bJ T.ql rfl T.bU rfl T.aa (d_v 0)) (ao (aA T.bB T.mX rfl T.bU rfl T.aa (d_v 0)) (ao (aA T.bK T.p_ rfl T.bU rfl T.aa (d_v 0)) (ao (aA T.bX T.rY rfl T.bU rfl T.aa (d_v 0)) (ao (aA T.bL T.qp rfl T.bU rfl T.aa (d_v 0)) (ao (aA T.bM T.qj rfl T.bU rfl T.aa (d_v 0)) (ao (aA T.bF T.oW rfl T.bU rfl T.aa (d_v 0)) (ao (aA T.bY T.sG rfl T.bU rfl T.aa (d_v 0)) (ao (aA T.bO T.pY rfl T.bU rfl T.aa (d_v 0)) (ao (aA T.bZ T.rR rfl T.bU rfl T.aa (d_v 0)) lO))))))))))) (af (ao (aA T.bA T.qg rfl T.dw rfl T.aa (d_v 0)) (ao (aA T.bJ T.uG rfl T.dw rfl T.aa (d_v 0)) (ao (aA T.bB T.p7 rfl T.dw rfl T.aa (d_v 0)) (ao (aA T.bK T.uq rfl T.dw rfl T.aa (d_v 0)) (ao (aA T.bX T.vH rfl T.dw rfl T.aa (d_v 0)) (ao (aA T.bL T.uL rfl T.dw rfl T.aa (d_v 0)) (ao (aA T.bM T.uB rfl T.dw rfl T.aa (d_v 0)) (ao (aA T.bF T.sj rfl T.dw rfl T.aa (d_v 0)) (ao (aA T.bY T.vQ rfl T.dw rfl T.aa (d_v 0)) (ao (aA T.bO T.ue rfl T.dw rfl T.aa (d_v 0)) (ao (aA T.bZ T.vv rfl T.dw rfl T.aa (d_v 0)) lO))))))))))) (af (ao (aA T.bA T.mY rfl T.bS rfl T.aa (d_v 0)) (ao (aA T.bJ T.qk rfl T.bS rfl T.aa (d_v 0)) (ao (aA T.bB T.mW rfl T.bS rfl T.aa (d_v 0)) (ao (aA T.bK T.p9 rfl T.bS rfl T.aa (d_v 0)) (ao (aA T.bX T.rX rfl T.bS rfl T.aa (d_v 0)) (ao (aA T.bL T.qo rfl T.bS rfl T.aa (d_v 0)) (ao (aA T.bM T.qi rfl T.bS rfl T.aa (d_v 0)) (ao (aA T.bF T.oV rfl T.bS rfl T.aa (d_v 0)) (ao (aA T.bY T.sF rfl T.bS rfl T.aa (d_v 0)) (ao (aA T.bO T.pX rfl T.bS rfl T.aa (d_v 0)) (ao (aA T.bZ T.rQ rfl T.bS rfl T.aa (d_v 0)) lO))))))))))) aG)))))
  (aI (s_a 2 gI.nd (cN (d_v 2) (i8 (af (ao (aA T.bA T.qe rfl T.dj rfl T.aa (d_v 0)) (ao (aA T.bJ T.uE rfl T.dj rfl T.aa (d_v 0)) (ao (aA T.bB T.p5 rfl T.dj rfl T.aa (d_v 0)) (ao (aA T.bK T.um rfl T.dj rfl T.aa (d_v 0)) (ao (aA T.bX T.vF rfl T.dj rfl T.aa (d_v 0)) (ao (aA T.bL T.uJ rfl T.dj rfl T.aa (d_v 0)) (ao (aA T.bM T.uz rfl T.dj rfl T.aa (d_v 0)) (ao (aA T.bF T.r9 rfl T.dj rfl T.aa (d_v 0)) (ao (aA T.bY T.vO rfl T.dj rfl T.aa (d_v 0)) (ao (aA T.bO T.uc rfl T.dj rfl T.aa (d_v 0)) (ao (aA T.bZ T.vq rfl T.dj rfl T.aa (d_v 0)) lO))))))))))) (af (ao (aA T.bA T.sC rfl T.gG rfl T.aa (d_v 0)) (ao (aA T.bJ T.vX rfl T.gG rfl T.aa (d_v 0)) (ao (aA T.bB T.rV rfl T.gG rfl T.aa (d_v 0)) (ao (aA T.bK T.vL rfl T.gG rfl T.aa (d_v 0)) (ao (aA T.bX T.yu rfl T.gG rfl T.aa (d_v 0)) (ao (aA T.bL T.v5 rfl T.gG rfl T.aa (d_v 0)) (ao (aA T.bM T.vU rfl T.gG rfl T.aa (d_v 0)) (ao (aA T.bF T.uv rfl T.gG rfl T.aa (d_v 0)) (ao (aA T.bY T.yz rfl T.gG rfl T.aa (d_v 0)) (ao (aA T.bO T.vC rfl T.gG rfl T.aa (d_v 0)) (ao (aA T.bZ T.yq rfl T.gG rfl T.aa (d_v 0)) lO))))))))))) (af (ao (aA T.bA T.qh rfl T.dB rfl T.aa (d_v 0)) (ao (aA T.bJ T.uH rfl T.dB rfl T.aa (d_v 0)) (ao (aA T.bB T.p8 rfl T.dB rfl T.aa (d_v 0)) (ao (aA T.bK T.ur rfl T.dB rfl T.aa (d_v 0)) (ao (aA T.bX T.vJ rfl T.dB rfl T.aa (d_v 0)) (ao (aA T.bL T.uM rfl T.dB rfl T.aa (d_v 0)) (ao (aA T.bM T.uC rfl T.dB rfl T.aa (d_v 0)) (ao (aA T.bF T.sq rfl T.dB rfl T.aa (d_v 0)) (ao (aA T.bY T.vR rfl T.dB rfl T.aa (d_v 0)) (ao (aA T.bO T.uf rfl T.dB rfl T.aa (d_v 0)) (ao (aA T.bZ T.vz rfl T.dB rfl T.aa (d_v 0)) lO))))))))))) aG))))))
  (aI (s_a 2 gI.nd (cN (d_v 2) (i8 (af (ao (aA T.bA T.qf rfl T.dm rfl T.aa (d_v 0)) (ao (aA T.bJ T.uF rfl T.dm rfl T.aa (d_v 0)) (ao (aA T.bB T.p6 rfl T.dm rfl T.aa (d_v 0)) (ao (aA T.bK T.uo rfl T.dm rfl T.aa (d_v 0)) (ao (aA T.bX T.vG rfl T.dm rfl T.aa (d_v 0)) (ao (aA T.bL T.uK rfl T.dm rfl T.aa (d_v 0)) (ao (aA T.bM T.uA rfl T.dm rfl T.aa (d_v 0)) (ao (aA T.bF T.r_ rfl T.dm rfl T.aa (d_v 0)) (ao (aA T.bY T.vP rfl T.dm rfl T.aa (d_v 0)) (ao (aA T.bO T.ud rfl T.dm rfl T.aa (d_v 0)) (ao (aA T.bZ T.vt rfl T.dm rfl T.aa (d_v 0)) lO))))))))))) (af (ao (aA T.bA T.oX rfl T.cg rfl T.aa (d_v 0)) (ao (aA T.bJ T.sI rfl T.cg rfl T.aa (d_v 0)) (ao (aA T.bB T.oU rfl T.cg rfl T.aa (d_v 0)) (ao (aA T.bK T.rZ rfl T.cg rfl T.aa (d_v 0)) (ao (aA T.bX T.ug rfl T.cg rfl T.aa (d_v 0)) (ao (aA T.bL T.sJ rfl T.cg rfl T.aa (d_v 0)) (ao (aA T.bM T.sH rfl T.cg rfl T.aa (d_v 0)) (ao (aA T.bF T.qc rfl T.cg rfl T.aa (d_v 0)) (ao (aA T.bY T.ux rfl T.cg rfl T.aa (d_v 0)) (ao (aA T.bO T.rS rfl T.cg rfl T.aa (d_v 0)) (ao (aA T.bZ T.t_ rfl T.cg rfl T.aa (d_v 0)) lO))))))))))) (af (ao (aA T.bA T.sD rfl T.gH rfl T.aa (d_v 0)) (ao (aA T.bJ T.vY rfl T.gH rfl T.aa (d_v 0)) (ao (aA T.bB T.rW rfl T.gH rfl T.aa (d_v 0)) (ao (aA T.bK T.vM rfl T.gH rfl T.aa (d_v 0)) (ao (aA T.bX T.yw rfl T.gH rfl T.aa (d_v 0)) (ao (aA T.bL T.v7 rfl T.gH rfl T.aa (d_v 0)) (ao (aA T.bM T.vV rfl T.gH rfl T.aa (d_v 0)) (ao (aA T.bF T.uw rfl T.gH rfl T.aa (d_v 0)) (ao (aA T.bY T.yC rfl T.gH rfl T.aa (d_v 0)) (ao (aA T.bO T.vD rfl T.gH rfl T.aa (d_v 0)) (ao (aA T.bZ T.yr rfl T.gH rfl T.aa (d_v 0)) lO))))))))))) aG))))))
  (aI (s_a 2 gI.nd (cN (d_v 2) (i8 (af (ao (aA T.bA T.qd rfl T.di rfl T.aa (d_v 0)) (ao (aA T.bJ T.uD rfl T.di rfl T.aa (d_v 0)) (ao (aA T.bB T.pZ rfl T.di rfl T.aa (d_v 0)) (ao (aA T.bK T.uh rfl T.di rfl T.aa (d_v 0)) (ao (aA T.bX T.vE rfl T.di rfl T.aa (d_v 0)) (ao (aA T.bL T.uI rfl T.di rfl T.aa (d_v 0)) (ao (aA T.bM T.uy rfl T.di rfl T.aa (d_v 0)) (ao (aA T.bF T.r8 rfl T.di rfl T.aa (d_v 0)) (ao (aA T.bY T.vN rfl T.di rfl T.aa (d_v 0)) (ao (aA T.bO T.ua rfl T.di rfl T.aa (d_v 0)) (ao (aA T.bZ T.vp rfl T.di rfl T.aa (d_v 0)) lO))))))))))) (af (ao (aA T.bA T.su rfl T.gF rfl T.aa (d_v 0)) (ao (aA T.bJ T.vW rfl T.gF rfl T.aa (d_v 0)) (ao (aA T.bB T.rT rfl T.gF rfl T.aa (d_v 0)) (ao (aA T.bK T.vK rfl T.gF rfl T.aa (d_v 0)) (ao (aA T.bX T.yt rfl T.gF rfl T.aa (d_v 0)) (ao (aA T.bL T.vZ rfl T.gF rfl T.aa (d_v 0)) (ao (aA T.bM T.vS rfl T.gF rfl T.aa (d_v 0)) (ao (aA T.bF T.uu rfl T.gF rfl T.aa (d_v 0)) (ao (aA T.bY T.yx rfl T.gF rfl T.aa (d_v 0)) (ao (aA T.bO T.vA rfl T.gF rfl T.aa (d_v 0)) (ao (aA T.bZ T.yp rfl T.gF rfl T.aa (d_v 0)) lO))))))))))) aG)))))
  (bq (s_r (Bl (RM hr (d_v 2) (Ur ["caught","kind","marks"] ["k"] (c_n 3 yV rfl rfl) (FW rfl T.kZ (af d_i aG)) (fun _ _ _ _ _=>pC) (fun _ _ _ _ _=>(RM hr (d_v 3) (d_v 1))))) (Ez (ao (jo T.bA T.kY rfl rfl T.bD rfl T.aa (d_v 0)) (ao (jo T.bJ T.mU rfl rfl T.bD rfl T.aa (d_v 0)) (ao (jo T.bB T.kX rfl rfl T.bD rfl T.aa (d_v 0)) (ao (jo T.bK T.mS rfl rfl T.bD rfl T.aa (d_v 0)) (ao (jo T.bX T.oR rfl rfl T.bD rfl T.aa (d_v 0)) (ao (jo T.bL T.mV rfl rfl T.bD rfl T.aa (d_v 0)) (ao (jo T.bM T.mT rfl rfl T.bD rfl T.aa (d_v 0)) (ao (jo T.bF T.lT rfl rfl T.bD rfl T.aa (d_v 0)) (ao (jo T.bY T.oS rfl rfl T.bD rfl T.aa (d_v 0)) (ao (jo T.bO T.mR rfl rfl T.bD rfl T.aa (d_v 0)) (ao (jo T.bZ T.oQ rfl rfl T.bD rfl T.aa (d_v 0)) lO)))))))))))))))))))
theorem m7 :
  ck P' w K mg base CX0 7 fG dh ["n","record","a","b"] (spD (dc ai av ah ak aC az au aj aD aq aB)):=
 okQ T.k6 jK fun _ _ _ _ _ _ hr=>(aI (s_a 4 jK.nd d_n)
  (aI (UJ (PR (fun pn xe=>(bq (s_e (b5 (QM T) (Br.hm hr) rfl T.NB T.E8.kp T.E9 (@af _ _ _ _ _ (d_v 0) (@af _ _ _ _ _ (d_v 1) (@af _ _ _ _ _ (d_v 2) (@af _ _ _ _ _ (d_v 3) (@af _ _ _ _ _ d_i aG rfl) rfl) rfl) rfl) rfl)))))) (PV (ie:=5) rfl rfl rfl jK.nd rfl rfl rfl T.D7 T.pW (fun pn xe E hp=>(ES (y_x (Il (x_call (lU T) (Br.hm hr) rfl T.NB T.E8.kp T.E9 hp (@af _ _ _ _ _ (d_v 0) (@af _ _ _ _ _ (d_v 1) (@af _ _ _ _ _ (d_v 2) (@af _ _ _ _ _ (d_v 3) (@af _ _ _ _ _ d_i aG rfl) rfl) rfl) rfl) rfl)))))) (fun A' xe=>(bq (s_a 4 jK.nd (d_v 5))))))
  (bq (s_r (d_v 4)))))
theorem QS :
  ck P' w K mg base CX0 8 ye t9 ["script"] (spD (xM ai av ah ak aC az au aj aD aq aB)):=
 okQ T.Tu jt fun _ _ _ _ _ _ hr=>(aI (s_a 1 jt.nd (b5 (JN T) (Br.hm hr) rfl T.NC T.JH.kp T.E_ (af (d_v 0) (af d_i aG))))
  (aI (s_a 2 jt.nd (cN d_i (cW (jc T) (Br.hm hr) rfl T.lP T.kE.kp T.jI (af (d_v 1) (af d_i aG)))))
  (aI (uS V7 rfl (Uo rfl T.kZ (af d_i (af (HL rfl rfl T.Nx (af d_i (af (HK rfl rfl T.Ny (af d_i (af (Bk rfl T.Cv (af (d_v 0) aG)) aG))) aG))) aG))) (g_n 3 jt.nd)
  (aI (s_a 1 jt.nd (b5 (JN T) (Br.hm hr) rfl T.NC T.JH.kp T.E_ (af (d_v 0) (af (d_v 3) aG))))
  (aI (s_a 4 jt.nd (cW (QO T) (Br.hm hr) rfl T.Ti T.NI.kp T.JI (af (d_v 1) (af (d_v 2) (af d_i aG)))))
  (aI (s_a 5 jt.nd (OY rfl T.Jz (af (d_v 4) aG)))
  (aI (s_a 6 jt.nd (cW (jc T) (Br.hm hr) rfl T.lP T.kE.kp T.jI (af (d_v 1) (af (d_v 2) aG))))
  (@aI _ _ _ _ _ (@s_a _ _ _ _ 7 _ _ jt.nd (@i8 _ _ _ _ (@af _ _ _ _ _ (d_v 6) (@af _ _ _ _ _ (d_v 2) (@af _ _ _ _ _ (M3 d_i) (@af _ _ _ _ _ (cN (d_v 2) (cW (jc T) (Br.hm hr) rfl T.lP T.kE.kp T.jI (af (d_v 1) (af (HH d_i d_i) aG)))) (@af _ _ _ _ _ (Bj (M3 d_i) (cW (jc T) (Br.hm hr) rfl T.lP T.kE.kp T.jI (af (d_v 1) (af d_i aG)))) (@af _ _ _ _ _ d_b (@af _ _ _ _ _ d_b (@af _ _ _ _ _ d_n aG rfl) rfl) rfl) rfl) rfl) rfl) rfl) rfl)) rfl (by trivial) rfl (by trivial))
  (aI (s_a 7 jt.nd (cN (d_v 7) (i8 (af (P6 hr rfl T.S9 (af (d_v 6) aG)) (af (i8 (af (d_v 6) aG)) (af (l9 (af (d_v 6) aG)) aG))))))
  (aI (s_a 8 jt.nd (i7 (d_v 7) (cW (jc T) (Br.hm hr) rfl T.lP T.kE.kp T.jI (af (d_v 1) (af (Bk rfl T.Cv (af (d_v 7) aG)) aG)))))
  (aI (xj (t_w (w_or (EA (EB (b5 (sL T) (Br.hm hr) rfl T.u_ T.m5.kp T.jJ (af (b5 (m7 T) (Br.hm hr) rfl T.qq T.k6.kp T.jr (af (d_v 2) (af (d_v 5) (af (d_v 6) (af (d_v 8) aG))))) (af d_i aG))))) (M5 (EA (EB (b5 (sL T) (Br.hm hr) rfl T.u_ T.m5.kp T.jJ (af (b5 (m7 T) (Br.hm hr) rfl T.qq T.k6.kp T.jr (af (d_v 2) (af (d_v 5) (af (d_v 8) (af (d_v 6) aG))))) (af d_i aG)))))))) (bq (s_r d_b)) o4)
  (bq (xj (t_w (w_or (t_w (w_and (OX (d_v 2) d_i) (tL (Py (b5 (m7 T) (Br.hm hr) rfl T.qq T.k6.kp T.jr (af (d_v 2) (af (d_v 5) (af (d_v 6) (af (uQ (cN (d_v 6) d_i) (d_v 2)) aG))))) d_n)))) (M5 (RN hr (d_v 5) (d_v 4))))) (bq (s_r d_b)) o4)))))))))))
  (bq (s_r d_b)))))
end
theorem all_mk{l:YG}{w:World}{K:Dk}{h:Heap}{mg:Str->Option Value}{fa DV DX DY DZ D0 D3 D4 D5 Ct D6 xX xY xZ x_ u7 ya yb yc yd dg fG ye aB aq ah aC ak aj ai aD au av br az fF:Addr}{yf yg yh yi yj yk yl ym u9 yo pO pP pQ pR mQ pS pT pU pV cB dh t9:FuncData}(X:K.In h)(G:h.Ns mainGlobals mg)(hfa:mg "law" = some (.ref fa))
  {Gu Gv:Option Addr} {Gw:Array (Option Value)} {Gx Gy Gz GA zS GB:Value}
  (JO:iK K "led_steps" (top 1) DV yf)
  (JP:iK K "shortest_ways" (top 2) DX yg)
  (JQ:iK K "lead_along" (top 3) DY yh)
  (JR:iK K "parted" (top 4) DZ yi)
  (JS:iK K "is_whole" (top 19) D0 yj)
  (JT:iK K "is_within" (top 20) D3 yk)
  (JU:iK K "is_place" (top 21) D4 yl)
  (JV:iK K "is_pair" (top 22) D5 ym)
  (JX:iK K "look_at_pair" (top 23) Ct u9)
  (JY:iK K "moments_of_steps" (top 27) D6 yo)
  (CA:iK K "steps_through_doors" (top 28) xX pO)
  (CB:iK K "free_doors" (top 29) xY pP)
  (CC:iK K "first_shut" (top 30) xZ pQ)
  (CD:iK K "ways_around" (top 26) x_ pR)
  (CF:iK K "place_hang" (top 25) u7 mQ)
  (CG:iK K "_law_cell_at" (top 32) ya pS)
  (CH:iK K "_law_pool" (top 33) yb pT)
  (CI:iK K "_law_take" (top 34) yc pU)
  (CJ:iK K "_law_record" (top 35) yd pV)
  (i_:iK K "_law_alone" (top 36) dg cB)
  (ju:iK K "_law_told" (top 37) fG dh)
  (zT:iK K "law" (top 38) ye t9)
  (k7:VD K mainGlobals "ValueError" = some none)
  (D9:VD K mainGlobals "bool" = some none)
  (D_:VD K mainGlobals "dict" = some none)
  (m8:VD K mainGlobals "enumerate" = some none)
  (JZ:VD K mainGlobals "int" = some none)
  (k8:VD K mainGlobals "isinstance" = some none)
  (J0:VD K mainGlobals "len" = some none)
  (Ea:VD K mainGlobals "list" = some none)
  (J2:VD K mainGlobals "max" = some none)
  (J3:VD K mainGlobals "min" = some none)
  (AQ:VD K mainGlobals "range" = some none)
  (yD:VD K mainGlobals "sorted" = some none)
  (J4:VD K mainGlobals "str" = some none)
  (AR:VD K mainGlobals "tuple" = some none)
  (wF:VD K mainGlobals "Clash" = some (some (.ref aB)))
  (sM:VD K mainGlobals "NoDeed" = some (some (.ref aq)))
  (k9:VD K mainGlobals "NoLayers" = some (some (.ref ah)))
  (wG:VD K mainGlobals "NoNet" = some (some (.ref aC)))
  (sN:VD K mainGlobals "NoPair" = some (some (.ref ak)))
  (oK:VD K mainGlobals "NoPaper" = some (some (.ref aj)))
  (k_:VD K mainGlobals "NoPlaces" = some (some (.ref ai)))
  (wH:VD K mainGlobals "NoRow" = some (some (.ref aD)))
  (sO:VD K mainGlobals "NoText" = some (some (.ref au)))
  (sP:VD K mainGlobals "NoTies" = some (some (.ref av)))
  (qt:VD K mainGlobals "PlyError" = some (some (.ref br)))
  (sQ:VD K mainGlobals "Unlike" = some (some (.ref az)))
  (jv:Ww K ai bmV "ValueError.__new__" = true)
  (jS:Vj K (.ref ai) "__getattribute__" = some (some (.builtin "BaseException.__getattribute__")))
  (jT:Vj K (.ref ai) "__getattr__" = some none)
  (jU:Vj K (.ref ai) "__class__" = some (some (.builtin "object.__class__")))
  (jV:VG K ai (.type "BaseException")=some true)
  (jW:VG K ai (.type "object")=some true)
  (jX:(Wm K ai).isSome=true)
  (lg:Ww K av bmV "ValueError.__new__" = true)
  (m9:Vj K (.ref av) "__getattribute__" = some (some (.builtin "BaseException.__getattribute__")))
  (ng:Vj K (.ref av) "__getattr__" = some none)
  (nh:Vj K (.ref av) "__class__" = some (some (.builtin "object.__class__")))
  (ni:VG K av (.type "BaseException")=some true)
  (nj:VG K av (.type "object")=some true)
  (nk:(Wm K av).isSome=true)
  (jx:Ww K ah bmV "ValueError.__new__" = true)
  (jY:Vj K (.ref ah) "__getattribute__" = some (some (.builtin "BaseException.__getattribute__")))
  (jZ:Vj K (.ref ah) "__getattr__" = some none)
  (j3:Vj K (.ref ah) "__class__" = some (some (.builtin "object.__class__")))
  (j4:VG K ah (.type "BaseException")=some true)
  (j5:VG K ah (.type "object")=some true)
  (j6:(Wm K ah).isSome=true)
  (lq:Ww K ak bmV "ValueError.__new__" = true)
  (nq:Vj K (.ref ak) "__getattribute__" = some (some (.builtin "BaseException.__getattribute__")))
  (nt:Vj K (.ref ak) "__getattr__" = some none)
  (nu:Vj K (.ref ak) "__class__" = some (some (.builtin "object.__class__")))
  (nv:VG K ak (.type "BaseException")=some true)
  (nB:VG K ak (.type "object")=some true)
  (nC:(Wm K ak).isSome=true)
  (nD:Ww K aC bmV "ValueError.__new__" = true)
  (qu:Vj K (.ref aC) "__getattribute__" = some (some (.builtin "BaseException.__getattribute__")))
  (qv:Vj K (.ref aC) "__getattr__" = some none)
  (qw:Vj K (.ref aC) "__class__" = some (some (.builtin "object.__class__")))
  (qx:VG K aC (.type "BaseException")=some true)
  (qy:VG K aC (.type "object")=some true)
  (qz:(Wm K aC).isSome=true)
  (lu:Ww K az bmV "ValueError.__new__" = true)
  (nE:Vj K (.ref az) "__getattribute__" = some (some (.builtin "BaseException.__getattribute__")))
  (nF:Vj K (.ref az) "__getattr__" = some none)
  (nG:Vj K (.ref az) "__class__" = some (some (.builtin "object.__class__")))
  (nI:VG K az (.type "BaseException")=some true)
  (nJ:VG K az (.type "object")=some true)
  (nK:(Wm K az).isSome=true)
  (ly:Ww K au bmV "ValueError.__new__" = true)
  (nM:Vj K (.ref au) "__getattribute__" = some (some (.builtin "BaseException.__getattribute__")))
  (nN:Vj K (.ref au) "__getattr__" = some none)
  (nQ:Vj K (.ref au) "__class__" = some (some (.builtin "object.__class__")))
  (nR:VG K au (.type "BaseException")=some true)
  (nS:VG K au (.type "object")=some true)
  (nT:(Wm K au).isSome=true)
  (j7:Ww K aj bmV "ValueError.__new__" = true)
  (lz:Vj K (.ref aj) "__getattribute__" = some (some (.builtin "BaseException.__getattribute__")))
  (lD:Vj K (.ref aj) "__getattr__" = some none)
  (lE:Vj K (.ref aj) "__class__" = some (some (.builtin "object.__class__")))
  (lF:VG K aj (.type "BaseException")=some true)
  (lG:VG K aj (.type "object")=some true)
  (lH:(Wm K aj).isSome=true)
  (nU:Ww K aD bmV "ValueError.__new__" = true)
  (qA:Vj K (.ref aD) "__getattribute__" = some (some (.builtin "BaseException.__getattribute__")))
  (qB:Vj K (.ref aD) "__getattr__" = some none)
  (qC:Vj K (.ref aD) "__class__" = some (some (.builtin "object.__class__")))
  (qD:VG K aD (.type "BaseException")=some true)
  (qE:VG K aD (.type "object")=some true)
  (qF:(Wm K aD).isSome=true)
  (lI:Ww K aq bmV "ValueError.__new__" = true)
  (nV:Vj K (.ref aq) "__getattribute__" = some (some (.builtin "BaseException.__getattribute__")))
  (nW:Vj K (.ref aq) "__getattr__" = some none)
  (nX:Vj K (.ref aq) "__class__" = some (some (.builtin "object.__class__")))
  (nY:VG K aq (.type "BaseException")=some true)
  (nZ:VG K aq (.type "object")=some true)
  (n5:(Wm K aq).isSome=true)
  (n6:Vj K (.ref aB) "__init__" = some (some (.ref fF)))
  (n8:K.lookup fF=some ⟨Gx,Gu,.func (VZ "__init__" "Clash.__init__" (bV kD) (bH kD) (aF kD) .none Gy Gz GA Gv zS GB),Gw⟩) (n9:XI K zS "Clash.__init__" = true) (n_:Wc K (.ref fF)=true)
  (qG:Wc K (.ref aB)=true)
  (qH:X7 K (.ref fF)=some (.type "function"))
  (oi:PySem.W.isI K aB fF bmV "ValueError.__new__" = true)
  (qI:Yo K aB=true)
  (qJ:Vj K (.ref aB) "moment" = some none)
  (qK:Vj K (.ref aB) "__setattr__" = some (some (.builtin "object.__setattr__")))
  (qL:Yp K (.ref br) "__getattribute__" = some (some (.builtin "type.__getattribute__")))
  (qM:PySem.W.readsIn K br (.type "type")=true)
  (qN:PySem.W.findCls K (.ref br) (.type "type") "__init__" = some (.val (.builtin "ValueError.__init__")))
  (qO:Vj K (.ref aB) "__getattribute__" = some (some (.builtin "BaseException.__getattribute__")))
  (qP:Vj K (.ref aB) "__getattr__" = some none)
  (qQ:Vj K (.ref aB) "__class__" = some (some (.builtin "object.__class__")))
  (qR:VG K aB (.type "BaseException")=some true)
  (qS:VG K aB (.type "object")=some true)
  (qT:(Wm K aB).isSome=true)
  (cP:eg K (.ref aB) (.type "ValueError")=some true)
  (cC:eg K (.ref aq) (.type "ValueError")=some true)
  (b7:eg K (.ref ah) (.type "ValueError")=some true)
  (cQ:eg K (.ref aC) (.type "ValueError")=some true)
  (cD:eg K (.ref ak) (.type "ValueError")=some true)
  (cj:eg K (.ref aj) (.type "ValueError")=some true)
  (b8:eg K (.ref ai) (.type "ValueError")=some true)
  (cR:eg K (.ref aD) (.type "ValueError")=some true)
  (cE:eg K (.ref au) (.type "ValueError")=some true)
  (cF:eg K (.ref av) (.type "ValueError")=some true)
  (cG:eg K (.ref az) (.type "ValueError")=some true)
  (j8:X7 K (.ref br)=some (.type "type"))
  (j9:(Wm K br).isSome=true)
  (j_:VG K br (.type "BaseException")=some true)
  (dD:VG K ak (.ref br)=some true)
  (iM:eg K (.ref aB) (.ref aB)=some true)
  (gJ:eg K (.ref aB) (.ref aq)=some false)
  (eu:eg K (.ref aB) (.ref ah)=some false)
  (iN:eg K (.ref aB) (.ref aC)=some false)
  (gK:eg K (.ref aB) (.ref ak)=some false)
  (fH:eg K (.ref aB) (.ref aj)=some false)
  (ez:eg K (.ref aB) (.ref ai)=some false)
  (iO:eg K (.ref aB) (.ref aD)=some false)
  (gM:eg K (.ref aB) (.ref au)=some false)
  (gO:eg K (.ref aB) (.ref av)=some false)
  (gP:eg K (.ref aB) (.ref az)=some false)
  (gQ:eg K (.ref aq) (.ref aB)=some false)
  (fJ:eg K (.ref aq) (.ref aq)=some true)
  (dF:eg K (.ref aq) (.ref ah)=some false)
  (gR:eg K (.ref aq) (.ref aC)=some false)
  (fK:eg K (.ref aq) (.ref ak)=some false)
  (eE:eg K (.ref aq) (.ref aj)=some false)
  (dG:eg K (.ref aq) (.ref ai)=some false)
  (gS:eg K (.ref aq) (.ref aD)=some false)
  (fL:eg K (.ref aq) (.ref au)=some false)
  (fM:eg K (.ref aq) (.ref av)=some false)
  (fN:eg K (.ref aq) (.ref az)=some false)
  (eG:eg K (.ref ah) (.ref aB)=some false)
  (dH:eg K (.ref ah) (.ref aq)=some false)
  (cH:eg K (.ref ah) (.ref ah)=some true)
  (eK:eg K (.ref ah) (.ref aC)=some false)
  (dI:eg K (.ref ah) (.ref ak)=some false)
  (cS:eg K (.ref ah) (.ref aj)=some false)
  (cI:eg K (.ref ah) (.ref ai)=some false)
  (eN:eg K (.ref ah) (.ref aD)=some false)
  (dJ:eg K (.ref ah) (.ref au)=some false)
  (dM:eg K (.ref ah) (.ref av)=some false)
  (dN:eg K (.ref ah) (.ref az)=some false)
  (iP:eg K (.ref aC) (.ref aB)=some false)
  (gT:eg K (.ref aC) (.ref aq)=some false)
  (eO:eg K (.ref aC) (.ref ah)=some false)
  (iQ:eg K (.ref aC) (.ref aC)=some true)
  (gU:eg K (.ref aC) (.ref ak)=some false)
  (fO:eg K (.ref aC) (.ref aj)=some false)
  (eT:eg K (.ref aC) (.ref ai)=some false)
  (iR:eg K (.ref aC) (.ref aD)=some false)
  (gW:eg K (.ref aC) (.ref au)=some false)
  (gX:eg K (.ref aC) (.ref av)=some false)
  (gY:eg K (.ref aC) (.ref az)=some false)
  (gZ:eg K (.ref ak) (.ref aB)=some false)
  (fP:eg K (.ref ak) (.ref aq)=some false)
  (dO:eg K (.ref ak) (.ref ah)=some false)
  (g7:eg K (.ref ak) (.ref aC)=some false)
  (fQ:eg K (.ref ak) (.ref ak)=some true)
  (eU:eg K (.ref ak) (.ref aj)=some false)
  (dP:eg K (.ref ak) (.ref ai)=some false)
  (g8:eg K (.ref ak) (.ref aD)=some false)
  (fR:eg K (.ref ak) (.ref au)=some false)
  (fS:eg K (.ref ak) (.ref av)=some false)
  (fT:eg K (.ref ak) (.ref az)=some false)
  (fU:eg K (.ref aj) (.ref aB)=some false)
  (eW:eg K (.ref aj) (.ref aq)=some false)
  (cT:eg K (.ref aj) (.ref ah)=some false)
  (fV:eg K (.ref aj) (.ref aC)=some false)
  (eX:eg K (.ref aj) (.ref ak)=some false)
  (dQ:eg K (.ref aj) (.ref aj)=some true)
  (cU:eg K (.ref aj) (.ref ai)=some false)
  (fW:eg K (.ref aj) (.ref aD)=some false)
  (eY:eg K (.ref aj) (.ref au)=some false)
  (eZ:eg K (.ref aj) (.ref av)=some false)
  (e7:eg K (.ref aj) (.ref az)=some false)
  (e8:eg K (.ref ai) (.ref aB)=some false)
  (dR:eg K (.ref ai) (.ref aq)=some false)
  (cJ:eg K (.ref ai) (.ref ah)=some false)
  (e_:eg K (.ref ai) (.ref aC)=some false)
  (dS:eg K (.ref ai) (.ref ak)=some false)
  (cV:eg K (.ref ai) (.ref aj)=some false)
  (cK:eg K (.ref ai) (.ref ai)=some true)
  (ff:eg K (.ref ai) (.ref aD)=some false)
  (dU:eg K (.ref ai) (.ref au)=some false)
  (dW:eg K (.ref ai) (.ref av)=some false)
  (dX:eg K (.ref ai) (.ref az)=some false)
  (iU:eg K (.ref aD) (.ref aB)=some false)
  (g9:eg K (.ref aD) (.ref aq)=some false)
  (fh:eg K (.ref aD) (.ref ah)=some false)
  (iV:eg K (.ref aD) (.ref aC)=some false)
  (g_:eg K (.ref aD) (.ref ak)=some false)
  (fX:eg K (.ref aD) (.ref aj)=some false)
  (fk:eg K (.ref aD) (.ref ai)=some false)
  (iW:eg K (.ref aD) (.ref aD)=some true)
  (h_:eg K (.ref aD) (.ref au)=some false)
  (ia:eg K (.ref aD) (.ref av)=some false)
  (ic:eg K (.ref aD) (.ref az)=some false)
  (ig:eg K (.ref au) (.ref aB)=some false)
  (fY:eg K (.ref au) (.ref aq)=some false)
  (dY:eg K (.ref au) (.ref ah)=some false)
  (ir:eg K (.ref au) (.ref aC)=some false)
  (fZ:eg K (.ref au) (.ref ak)=some false)
  (fm:eg K (.ref au) (.ref aj)=some false)
  (dZ:eg K (.ref au) (.ref ai)=some false)
  (iu:eg K (.ref au) (.ref aD)=some false)
  (f9:eg K (.ref au) (.ref au)=some true)
  (f_:eg K (.ref au) (.ref av)=some false)
  (gb:eg K (.ref au) (.ref az)=some false)
  (iw:eg K (.ref av) (.ref aB)=some false)
  (gf:eg K (.ref av) (.ref aq)=some false)
  (d7:eg K (.ref av) (.ref ah)=some false)
  (iz:eg K (.ref av) (.ref aC)=some false)
  (gg:eg K (.ref av) (.ref ak)=some false)
  (fq:eg K (.ref av) (.ref aj)=some false)
  (d8:eg K (.ref av) (.ref ai)=some false)
  (iA:eg K (.ref av) (.ref aD)=some false)
  (gh:eg K (.ref av) (.ref au)=some false)
  (gi:eg K (.ref av) (.ref av)=some true)
  (gj:eg K (.ref av) (.ref az)=some false)
  (iB:eg K (.ref az) (.ref aB)=some false)
  (gk:eg K (.ref az) (.ref aq)=some false)
  (d9:eg K (.ref az) (.ref ah)=some false)
  (iC:eg K (.ref az) (.ref aC)=some false)
  (gm:eg K (.ref az) (.ref ak)=some false)
  (fu:eg K (.ref az) (.ref aj)=some false)
  (d_:eg K (.ref az) (.ref ai)=some false)
  (iD:eg K (.ref az) (.ref aD)=some false)
  (gp:eg K (.ref az) (.ref au)=some false)
  (gq:eg K (.ref az) (.ref av)=some false)
  (gu:eg K (.ref az) (.ref az)=some true) :
  ∃fd:FuncData,(∀(s:Shared) (v:Value),BindsTo s fd ⟨[v],[]⟩ [("script",v)])/\∀base:Heap,K.In base->base.Ns mainGlobals mg->ck l.prog w K mg base CX0 8 fa fd ["script"] (spD (xM ai av ah ak aC az au aj aD aq aB)):=by
 have e:=hfa.symm.trans (zT.m X G);cases e;have Qw:=JO.F.jq (ps:=["steps","heads"]) rfl fun _ _ _ _ _ _ _ _=>rfl;have JB:=JP.F.jq (ps:=["steps","a"]) rfl fun _ _ _ _ _ _ _ _=>rfl;have QB:=JQ.F.jq (ps:=["heads","way"]) rfl fun _ _ _ _ _ _ _ _=>rfl;have QC:=JR.F.Di (ps:=["steps","heads","a","b","count"]) rfl fun _ _ _ _ _ _ _ _ _ _ _=>rfl;have Qx:=JS.F.PM (ps:=["thing"]) rfl fun _ _ _ _ _ _ _=>rfl;have Qy:=JT.F.xC (ps:=["thing","low","high"]) rfl fun _ _ _ _ _ _ _ _ _=>rfl;have Mr:=JU.F.jq (ps:=["n","thing"]) rfl fun _ _ _ _ _ _ _ _=>rfl;have Ms:=JV.F.xC (ps:=["n","a","b"]) rfl fun _ _ _ _ _ _ _ _ _=>rfl;have Mu:=JX.F.xC (ps:=["n","a","b"]) rfl fun _ _ _ _ _ _ _ _ _=>rfl;have QD:=JY.F.jq (ps:=["n","ties"]) rfl fun _ _ _ _ _ _ _ _=>rfl;have JD:=CA.F.jq (ps:=["n","moments"]) rfl fun _ _ _ _ _ _ _ _=>rfl;have E7:=CB.F.jq (ps:=["steps","heads"]) rfl fun _ _ _ _ _ _ _ _=>rfl;have JE:=CC.F.xC (ps:=["n","way","reached"]) rfl fun _ _ _ _ _ _ _ _ _=>rfl;have JF:=CD.F.Di (ps:=["n","ties","a","b","most"]) rfl fun _ _ _ _ _ _ _ _ _ _ _=>rfl;have E9:=CF.F.Di (ps:=["n","record","a","b","most"]) rfl fun _ _ _ _ _ _ _ _ _ _ _=>rfl;have JG:=CG.F.jq (ps:=["script","k"]) rfl fun _ _ _ _ _ _ _ _=>rfl;have E_:=CH.F.jq (ps:=["script","at"]) rfl fun _ _ _ _ _ _ _ _=>rfl;have jI:=CI.F.jq (ps:=["pool","many"]) rfl fun _ _ _ _ _ _ _ _=>rfl;have JI:=CJ.F.xC (ps:=["pool","n","most"]) rfl fun _ _ _ _ _ _ _ _ _=>rfl;have jJ:=i_.F.jq (ps:=["caught","kind"]) rfl fun _ _ _ _ _ _ _ _=>rfl;have jr:=ju.F.PN (ps:=["n","record","a","b"]) rfl fun _ _ _ _ _ _ _ _ _ _=>rfl;have Cw:=G0 (st:=kD) n8 n9 n_;refine⟨_,fun s v=>zT.UI (fun _ _ _ _ _ _ _=>rfl) s v,fun base Xb _=>?_⟩;have T:Txt mg K base ..:=⟨mgo X G wF,mgo X G sM,mgo X G k9,mgo X G wG,mgo X G sN,mgo X G oK,mgo X G k_,mgo X G wH,mgo X G sO,mgo X G sP,mgo X G qt,mgo X G sQ,fD Xb (mgo X G k_) jv,⟨⟨jS,jT,jU,jV,jW⟩,jX⟩,fD Xb (mgo X G sP) lg,⟨⟨m9,ng,nh,ni,nj⟩,nk⟩,fD Xb (mgo X G k9) jx,⟨⟨jY,jZ,j3,j4,j5⟩,j6⟩,fD Xb (mgo X G sN) lq,⟨⟨nq,nt,nu,nv,nB⟩,nC⟩,fD Xb (mgo X G wG) nD,⟨⟨qu,qv,qw,qx,qy⟩,qz⟩,fD Xb (mgo X G sQ) lu,⟨⟨nE,nF,nG,nI,nJ⟩,nK⟩,fD Xb (mgo X G sO) ly,⟨⟨nM,nN,nQ,nR,nS⟩,nT⟩,fD Xb (mgo X G oK) j7,⟨⟨lz,lD,lE,lF,lG⟩,lH⟩,fD Xb (mgo X G wH) nU,⟨⟨qA,qB,qC,qD,qE⟩,qF⟩,fD Xb (mgo X G sM) lI,⟨⟨nV,nW,nX,nY,nZ⟩,n5⟩,LD Xb (mgo X G wF) qG n6 qH oi,qI,qJ,qK,qL,qM,qN,⟨⟨qO,qP,qQ,qR,qS⟩,qT⟩,cP,cC,b7,cQ,cD,cj,b8,cR,cE,cF,cG,⟨j8,j9,j_,dD⟩,iM,gJ,eu,iN,gK,fH,ez,iO,gM,gO,gP,gQ,fJ,dF,gR,fK,eE,dG,gS,fL,fM,fN,eG,dH,cH,eK,dI,cS,cI,eN,dJ,dM,dN,iP,gT,eO,iQ,gU,fO,eT,iR,gW,gX,gY,gZ,fP,dO,g7,fQ,eU,dP,g8,fR,fS,fT,fU,eW,cT,fV,eX,dQ,cU,fW,eY,eZ,e7,e8,dR,cJ,e_,dS,cV,cK,ff,dU,dW,dX,iU,g9,fh,iV,g_,fX,fk,iW,h_,ia,ic,ig,fY,dY,ir,fZ,fm,dZ,iu,f9,f_,gb,iw,gf,d7,iz,gg,fq,d8,iA,gh,gi,gj,iB,gk,d9,iC,gm,fu,d_,iD,gp,gq,gu,mno X G k7,mno X G D9,mno X G D_,mno X G m8,mno X G JZ,mno X G k8,mno X G J0,mno X G Ea,mno X G J2,mno X G J3,mno X G AQ,mno X G yD,mno X G J4,mno X G AR,JO.m X G,JP.m X G,JQ.m X G,JR.m X G,JS.m X G,JT.m X G,JU.m X G,JV.m X G,JX.m X G,JY.m X G,CA.m X G,CB.m X G,CC.m X G,CD.m X G,CF.m X G,CG.m X G,CH.m X G,CI.m X G,CJ.m X G,i_.m X G,ju.m X G,zT.m X G,Cw,JO.F,JP.F,JQ.F,Qw,JB,JR.F,JS.F,Qx,JT.F,Qy,JU.F,Mr,JV.F,Ms,JX.F,JY.F,CA.F,CB.F,CC.F,QB,QC,QD,JD,E7,JE,CD.F,Mu,JF,CF.F,CG.F,JG,CH.F,CI.F,jI,CJ.F,i_.F,E9,ju.F,E_,JI,jJ,jr,zT.F⟩
 exact QS T
theorem walk{aO aX aP aU bw aY aZ aS bx a_ bz:Nat}{l:YG}{q:Program}{loose:List Str}{XP:(Str->Option Value)->Heap->Prop}{YP:World->Heap->Prop}{d:DefRec}{K:Params->Dk}(hn:l.most=some 63)(hdf:d.params.defaults=[])
  (hY:∀(w:World) (h:Heap),YP w h->(K w.params).In h) (M:∀ns:List Int,ns.length<=63->xM aO aX aP aU bw aY aZ aS bx a_ bz [.lst (ns.map Dat.int)]=some (.val (.bl true))) (hK:∀w:World,HR (K w.params)=true)
  (F:∀ (w:World) (mg:Str→Option Value) (fa:Addr) (h:Heap),(K w.params).In h→h.Ns mainGlobals mg→mg d.name=some (.ref fa) →
   ∃fd:FuncData,(∀(s:Shared) (u:Value),BindsTo s fd ⟨[u],[]⟩ [("script",u)])/\∀base:Heap,(K w.params).In base->base.Ns mainGlobals mg->ck l.prog w (K w.params) mg base CX0 8 fa fd ["script"] (spD (xM aO aX aP aU bw aY aZ aS bx a_ bz))) :
  PySem.W.WalkO q loose XP YP l.row.toRowW d [] (fun f vs=>PySem.call f vs):=
 L2.Ks (n:=63) (k:=8) (x := "script") (CX:=fun _=>CX0) (sp:=fun _=>spD (xM aO aX aP aU bw aY aZ aS bx a_ bz)) hn (by decide) hdf ⟨rfl,by decide,by decide,rfl⟩ hY F
  (fun w H a ns hl hO hS=>O3 (M ns hl) (hK w) hS) fun _ _ _ _ _ z=>z
open PySem PySem.W PySem.W.X
theorem J_{q:Program}{loose:List Str}{XP:(Str->Option Value)->Heap->Prop}{r:RowW}{d:DefRec}{kwd:List (Str×Expr)}{run:Value->List Value->Sem Value}{K:Params->Frag}{as:List Addr}{n t:Nat}(e:∀P,as=(K P).map (·.1))
  (W:WalkO q loose XP (fun w h=>(K w.params).In h) r d kwd run):WalkX q loose XP (obsZ as) (valZ K n t) r d kwd run:=
 fun w s₀ s₁ mg mb G y a o pm cd doc dV kV ho hd SK hD hmg hg args vals as' L=>W w s₀ s₁ mg mb G (InK.keeps w _ _ (z_facts e y).2.1 L.keeps) a o pm cd doc dV kV ho hd SK hD hmg hg args vals as'
end Q
noncomputable def PySem.W.Fast.tw11108236715778580300:PySem.Program:=PySem.Challenge.pw_sinceply_k44_place_pairs_refused
theorem PySem.W.Fast.te11108236715778580300:PySem.Challenge.pw_sinceply_k44_place_pairs_refused=PySem.W.Fast.tw11108236715778580300:=rfl
namespace PySem.W.Fast
def tw10104558590529472286:=0
def tw3618734413412808558:=0
def tw11581528869891859824:=0
def tw3859036964661087661:=0
def tw7409039481840217859:=0
def tw7723589990232287823:=0
def tw17115345411963720323:=0
def tw6845761617888272934:=0
def tw6147906909354934455:=0
def tw6308929690037865336:=0
def tw11817032004837195620:=0
def tw14046137384430960232:=0
def tw4427264997698455805:=0
def tw11308426740255371125:=0
def tw15535897522148873540:=0
def tw6228703113647657276:=0
def tw5583387504264042657:=0
def tw2464956981356149368:=0
def tw7702922316441409713:=0
def tw8242259245041856428:=0
def tw13554872591486278750:=0
def tw5151865692247006785:=0
def tw8823661662723301857:=0
def tw13393679871569030950:=0
def tw11721995942371743261:=0
def tw10485448292856290004:=0
def tw844487134445039828:=0
def tw13625256407373221819:=0
def tw11014026219114738714:=0
def tw8717903716277006122:=0
def tw207756381109420497:=0
def tw17099108518325074583:=0
def tw764971382575296020:=0
def tw8350110715739988582:=0
def tw13199684898274751610:=0
def tw4226606070932322043:=0
def tw4386601571074944563:=0
def tw4718043619276421936:=0
def tw4879354112858043923:=0
def tw5789773458672105754:=0
def tw13686113644808281953:=0
def tw1435597329601154462:=0
def tw9564330302718626185:=0
def tw8998949901585235395:=0
def tw16194258277130182080:=0
def tw2579395415074899787:=0
def tw2435039815898871206:=0
def tw8143607815587571684:=0
def tw11675392557080156610:=0
def tw16629137716260511306:=0
def tw993233293349099265:=0
def tw685607241108454545:=0
def tw5203450858295606272:=0
def tw16373657638476563944:=0
def tw16757246989889975288:=0
def tw11297854468684604885:=0
def tw6879224350570725446:=0
def tw8984838401955299212:=0
def tw17317709690636964648:=0
def tw12447126845981414601:=0
def tw10198722568305653421:=0
def tw2681090738153765615:=0
def tw4963766614237220801:=0
def tw14883570049693157476:=0
def tw10412249749531772792:=0
def tw9877900016024170307:=0
def tw1585056783848668854:=0
def tw3671253147404159999:=0
def tw11350696308760923900:=0
def tw2511817749526775000:=0
def tw7600165028405332079:=0
def tw10989566789804866858:=0
def tw9340070700475149656:=0
def tw9381075098618503243:=0
def tw14050777369053313841:=0
def tw1094182156406227740:=0
def tw1522118835129735846:=0
def tw17920961549297647410:=0
def tw15638933688841355733:=0
def tw4025025169834555391:=0
def tw4547732025625557889:=0
def tw11101812687942924831:=0
def tw2929845953983563275:=0
def tw14145010606349554851:=0
def tw8396781914865269982:=0
def tw16992945006293788800:=0
def tw8332031321866670048:=0
def tw11408718461258862270:=0
def tw5886035144636128874:=0
def tw751181355637706034:=0
def tw6427985679765414040:=0
def tw16224187670674589684:=0
def tw2451843429830846031:=0
def tw8691539719807709704:=0
def tw11264714200844237384:=0
def tw13312217848242035084:=0
def tw7131315460616108869:=0
def tw8061804372044502717:=0
def tw3607787896438479441:=0
def tw4994334487353414982:=0
def tw13674527034727793798:=0
def tw4501154035835166925:=0
def tw17859289052262311326:=0
def tw17359449539497170666:=0
def tw7877598754188912652:=0
def tw9619884204535754967:=0
def tw5492378162998223567:=0
def tw10036479353800202684:=0
def tw7700121690625346141:=0
def tw5121728842176979368:=0
def tw6874517379293362797:=0
def tw16014245305041314963:=0
def tw7914669527928914694:=0
def tw2014146452200051819:=0
def tw14442605714012462221:=0
def tw9012583889682426327:=0
def tw18234041128500882261:=0
def tw16113575144767301152:=0
def tw16478794922737082748:=0
def tw832152006990929600:=0
def tw16213015474998736551:=0
def tw12046212996939998124:=0
def tw6493837602201214683:=0
def tw14993801528382665603:=0
def tw14890773287643822536:=0
def tw10029305129382646627:=0
def tw17117060535583118505:=0
def tw17960814281146975750:=0
def tw6133027311829987529:=0
def tw5530562030847611832:=0
def tw481883048767789004:=0
def tw5707212903243363123:=0
def tw4162517876742440581:=0
def tw18252542075769309647:=0
def tw17649763277771655396:=0
def tw1536567316556179303:=0
def tw10402819048526426070:=0
def tw14091216013231363356:=0
def tw11083468850828912976:=0
def tw610180810722806261:=0
def tw15391569580255356594:=0
def tw5261318934448752383:=0
def tw7253248296731141762:=0
def tw7319668333469729086:=0
def tw7287255431093766464:=0
def tw7500837918798003388:=0
def tw5837539263549357651:=0
def tw15202591202111599729:=0
def tw940991973048746554:=0
def tw11917896252337179247:=0
def tw6242846609296582998:=0
def tw10108489892198981501:=0
def tw4145631224197033139:=0
def tw16562266554221742635:=0
def tw8986822128469747719:=0
def tw9956027975243445362:=0
def tw18172788418704128594:=0
def tw11621741254060241817:=0
def tw16386285428617447350:=0
def tw5565511895849350768:=0
def tw8194811904138932502:=0
def tw7396462185161981650:=0
def tw12927398034553500899:=0
def tw5438519949258640490:=0
def tw1200591568435779978:=0
def tw9086265197457859619:=0
def tw13938658291187686641:=0
def tw11925047173904161786:=0
def tw733342265520313986:=0
def tw5771456237378664125:=0
def tw15384882804428435059:=0
def tw6517104988187112397:=0
def tw15123507180683708160:=0
def tw15866948603730214873:=0
def tw9759770084255228245:=0
def tw6261983559746845956:=0
def tw2508299057475083494:=0
def tw6715971761688190090:=0
def tw18104186130408884986:=0
def tw2327499822509483726:=0
def tw10993824550180929729:=0
def tw10187485498605192441:=0
def tw5009845323045065637:=0
def tw6163080097306169884:=0
def tw425366923943812559:=0
def tw5262803564791273780:=0
def tw5511754694429048659:=0
def tw3114640017467894093:=0
def tw4197021744420667006:=0
def tw1718521381667725795:=0
def tw14556817820211702111:=0
def tw1719094206207561381:=0
def tw4611184667223150024:=0
def tw18435098764956859452:=0
def tw9610193931911912048:=0
def tw8328795089370564666:=0
def tw1463877044969769036:=0
def tw1306431559932050772:=0
def tw6652750807205722967:=0
def tw9713269215009571554:=0
def tw15497607675239204364:=0
def tw575457829446107691:=0
def tw18205174818756602955:=0
def tw6481273612811055544:=0
def tw16579235422856241541:=0
def tw17230581852811225819:=0
def tw7522358747048555536:=0
def tw17435892028984725313:=0
def tw9016919394943858013:=0
def tw3938612568973681179:=0
def tw12167684284682401902:=0
def tw11845935828219749705:=0
def tw12241088725769086032:=0
def tw14231936316139808013:=0
def tw1347861147524470542:=0
def tw11729423496072741433:=0
def tw12226468877684188243:=0
def tw18029749288181167933:=0
def tw9968712366093412335:=0
def tw3750426912494683034:=0
def tw17574826979792282467:=0
def tw15202754393692624796:=0
def tw14749165680723492619:=0
def tw17401254684664398482:=0
def tw18070517624401241705:=0
def tw273679319929288410:=0
def tw12497594569963023639:=0
def tw962069195621960207:=0
def tw11500365286411640229:=0
def tw4417212898950055310:=0
def tw6656871270837548885:=0
def tw5836728547887323098:=0
def tw11638086099205021702:=0
def tw8678394936247701167:=0
def tw10234806235720812158:=0
def tw597889165418953165:=0
def tw3770477705747296509:=0
def tw14412487379252033424:=0
def tw4833506077556905392:=0
def tw2222639379202429257:=0
def tw18013251531403358364:=0
def tw10081596296480553931:=0
def tw9375166977927807126:=0
def tw14291607306138148054:=0
def tw13757088484400061920:=0
def tw17136471612126911900:=0
def tw7975444158924132099:=0
def tw13329325252633690246:=0
def tw14121582988964999699:=0
def tw4706675413554384055:=0
def tw13375369850393143744:=0
def tw2082679643952704753:=0
def tw9499975885395098973:=0
def tw14269227581703370161:=0
def tw4392033015859009889:=0
def tw15432543304502137660:=0
def tw7655206880121479206:=0
def tw17565958597338737479:=0
def tw17130867138399918230:=0
def tw2546078976931819091:=0
def tw14333060440202744851:=0
def tw1701515348251267730:=0
def tw5603323010018184022:=0
def tw4757466328658855534:=0
def tw5623983020016625606:=0
def tw5185303257917167036:=0
def tw7636737353037307004:=0
def tw3323459835154542928:=0
def tw10616024336331217993:=0
def tw4622538642636003898:=0
def tw299004800972899189:=0
def tw16834984059661772270:=0
def tw10504828880189821266:=0
def tw13151737354359281695:=0
def tw1484023319609724422:=0
def tw9767622842418636753:=0
def tw3134030903497260785:=0
def tw14313070681100236371:=0
def tw15973379600235676929:=0
def tw8971993342668888305:=0
def tw11281475786257627485:=0
def tw15298731391434529154:=0
def tw10950555042746568757:=0
def tw17792341387179551018:=0
def tw18060963080365345279:=0
def tw14843105705135385377:=0
def tw6002889922915672270:=0
def tw1529729557142390706:=0
def tw9836485930945600824:=0
def tw4130640650378226322:=0
def tw13135297321891739862:=0
def tw11344569090077203510:=0
def tw12928658936577654891:=0
def tw3434753768532860522:=0
def tw11064618784693365520:=0
def tw2106678133873573829:=0
def tw16700767373495076363:=0
def tw6613677442261433073:=0
def tw5367784691320623876:=0
def tw6663903464017933927:=0
def tw15199234093936379511:=0
def tw13267743900707170007:=0
def tw6955238487850363255:=0
def tw6011390658445618414:=0
def tw8896228521699340643:=0
def tw6651439500709374545:=0
def tw9304815988719388299:=0
def tw8833083976330729076:=0
def tw3818517817353199489:=0
def tw11698142733082750890:=0
def tw9947987668977834224:=0
def tw13353685259755534354:=0
def tw10963133719741817659:=0
def tw11641007751741816727:=0
def tw3271124626622638223:=0
def tw8048676350591016695:=0
def tw1312513640387215169:=0
end PySem.W.Fast
open PySem PySem.W PyProof.Rows
set_option maxRecDepth 100000 in
set_option maxHeartbeats 0 in
theorem PySem.Challenge.cw_sinceply_k44_place_pairs_refused_holds : PySem.Challenge.rw_sinceply_k44_place_pairs_refused.Holds := by
 w_on;o_law;z_head;(case hw=>w_witness2)
 k_fill
 refine' Q.J_ (fun _=>rfl) (Q.walk (l:=PySem.Challenge.rw_sinceply_k44_place_pairs_refused) rfl rfl (fun w h Y=>Y) (P.math _ _ _ _ _ _ _ _ _ _ _ ?ne) ?noL ?fnS)
 case noL=>intro w;rfl
 case fnS=>
  intro w mg fa h KX G hmg
  refine' Q.all_mk KX G hmg ?JO ?JP ?JQ ?JR ?JS ?JT ?JU ?JV ?JX ?JY ?CA ?CB ?CC ?CD ?CF ?CG ?CH ?CI ?CJ ?i_ ?ju ?zT ?k7 ?D9 ?D_ ?m8 ?JZ ?k8 ?J0 ?Ea ?J2 ?J3 ?AQ ?yD ?J4 ?AR ?wF ?sM ?k9 ?wG ?sN ?oK ?k_ ?wH ?sO ?sP ?qt ?sQ ?jv ?jS ?jT ?jU ?jV ?jW ?jX ?lg ?m9 ?ng ?nh ?ni ?nj ?nk ?jx ?jY ?jZ ?j3 ?j4 ?j5 ?j6 ?lq ?nq ?nt ?nu ?nv ?nB ?nC ?nD ?qu ?qv ?qw ?qx ?qy ?qz ?lu ?nE ?nF ?nG ?nI ?nJ ?nK ?ly ?nM ?nN ?nQ ?nR ?nS ?nT ?j7 ?lz ?lD ?lE ?lF ?lG ?lH ?nU ?qA ?qB ?qC ?qD ?qE ?qF ?lI ?nV ?nW ?nX ?nY ?nZ ?n5 ?n6 ?n8 ?n9 ?n_ ?qG ?qH ?oi ?qI ?qJ ?qK ?qL ?qM ?qN ?qO ?qP ?qQ ?qR ?qS ?qT ?cP ?cC ?b7 ?cQ ?cD ?cj ?b8 ?cR ?cE ?cF ?cG ?j8 ?j9 ?j_ ?dD ?iM ?gJ ?eu ?iN ?gK ?fH ?ez ?iO ?gM ?gO ?gP ?gQ ?fJ ?dF ?gR ?fK ?eE ?dG ?gS ?fL ?fM ?fN ?eG ?dH ?cH ?eK ?dI ?cS ?cI ?eN ?dJ ?dM ?dN ?iP ?gT ?eO ?iQ ?gU ?fO ?eT ?iR ?gW ?gX ?gY ?gZ ?fP ?dO ?g7 ?fQ ?eU ?dP ?g8 ?fR ?fS ?fT ?fU ?eW ?cT ?fV ?eX ?dQ ?cU ?fW ?eY ?eZ ?e7 ?e8 ?dR ?cJ ?e_ ?dS ?cV ?cK ?ff ?dU ?dW ?dX ?iU ?g9 ?fh ?iV ?g_ ?fX ?fk ?iW ?h_ ?ia ?ic ?ig ?fY ?dY ?ir ?fZ ?fm ?dZ ?iu ?f9 ?f_ ?gb ?iw ?gf ?d7 ?iz ?gg ?fq ?d8 ?iA ?gh ?gi ?gj ?iB ?gk ?d9 ?iC ?gm ?fu ?d_ ?iD ?gp ?gq ?gu
  case JO|JP|JQ|JR|JS|JT|JU|JV|JX|JY|CA|CB|CC|CD|CF|CG|CH|CI|CJ|i_|ju|zT=>refine' Br.bW ?e ?l ?c ?k;(case e=>k_is);(case l=>k_is);(case c=>k_is);(case k=>k_is)
  case k7|D9|D_|m8|JZ|k8|J0|Ea|J2|J3|AQ|yD|J4|AR|wF|sM|k9|wG|sN|oK|k_|wH|sO|sP|qt|sQ|n6|n8|n9|n_=>k_is
  case jv|jS|jT|jU|jV|jW|jX|lg|m9|ng|nh|ni|nj|nk|jx|jY|jZ|j3|j4|j5|j6|lq|nq|nt|nu|nv|nB|nC|nD|qu|qv|qw|qx|qy|qz|lu|nE|nF|nG|nI|nJ|nK|ly|nM|nN|nQ|nR|nS|nT|j7|lz|lD|lE|lF|lG|lH|nU|qA|qB|qC|qD|qE|qF|lI|nV|nW|nX|nY|nZ|n5|qG|qH|oi|qI|qJ|qK|qL|qM|qN|qO|qP|qQ|qR|qS|qT|cP|cC|b7|cQ|cD|cj|b8|cR|cE|cF|cG|j8|j9|j_|dD|iM|gJ|eu|iN|gK|fH|ez|iO|gM|gO|gP|gQ|fJ|dF|gR|fK|eE|dG|gS|fL|fM|fN|eG|dH|cH|eK|dI|cS|cI|eN|dJ|dM|dN|iP|gT|eO|iQ|gU|fO|eT|iR|gW|gX|gY|gZ|fP|dO|g7|fQ|eU|dP|g8|fR|fS|fT|fU|eW|cT|fV|eX|dQ|cU|fW|eY|eZ|e7|e8|dR|cJ|e_|dS|cV|cK|ff|dU|dW|dX|iU|g9|fh|iV|g_|fX|fk|iW|h_|ia|ic|ig|fY|dY|ir|fZ|fm|dZ|iu|f9|f_|gb|iw|gf|d7|iz|gg|fq|d8|iA|gh|gi|gj|iB|gk|d9|iC|gm|fu|d_|iD|gp|gq|gu=>first | k_is | kit_is | kernel_rfl
 case ne=>decide
end
