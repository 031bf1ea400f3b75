import PyProof.Rows.All
import Wide.All
import OpenK.AllK
import Wide.FinOn
import Lean
import PyProof.EqAt
import PyProof.EqKinds
import PyProof.TupleCall
import KE.KRevIter
import PyProof.EnumMake
import PyProof.EnumFor
import PyProof.ListRange
import PyProof.Rows.Range3
import PyProof.ZipIter
import PyProof.SumWalk
import PyProof.WalksMore
import PyProof.Rows.SetFrom
import PyProof.SetRoads
import PyProof.Rows.SortRunsK
import PyProof.Rows.SortWalk
import KE.KSortTup
import PyProof.Rows.Own
import PyProof.StationsW
import OpenK.KRaise
import KE.KIsAll
import PyProof.ExcArgsOwn
import PyProof.RulesAs
import PyProof.Ns1
import PyProof.Rows.Catch
import OpenK.KOwn
import PyProof.ExcBaseAll.ValueError
import KE.KDictSum
import PyProof.AttrMiss
import PyProof.IsiH_list
import KE.KDictOf
import PyProof.DictList
import KE.KDictList
import PyProof.FactsAll.set
import PyProof.Rows.TupAdd
import KE.KDictMeth
import PyProof.DictWalks
import PyProof.TupleKey
import PyProof.DictStraight
import PyProof.IsRules
import KE.KRevSl
import PyProof.Rows.CallKwBuiltin
import PyProof.Rows.SortShell
import KE.KSortKey
import KE.KLam
import KE.KNestM
import PySem.Challenge.RW_sinceply_k72_whole_pared_and_cut
open Array renaming getElem?_eq_getElem→S8,length_toList→Te,getD_eq_getD_getElem?→Tt,getElem?_eq_some_iff→T9,getElem?_toList→Up,getElem_toList→Vh,getElem?_setIfInBounds→VF,perm_iff_toList_perm→VM,getElem_mem_toList→VT,getElem?_replicate→VW,forIn_toList→VY,size_map→V0,getElem?_eq_none→Wc,replicate→Wz,toList_inj→W2
open Bool renaming false_eq_true→Tc,false_ne_true→TQ,and_eq_true→TY,not_true→Vd,and_comm→WS,eq_iff_iff→Xa,false_and→Xf,not_false→Xk,and_self→Xq
open Classical renaming byContradiction→UW
open Decidable renaming byContradiction→VO
open False renaming elim→T8
open ForInStep renaming yield→U0
open Int renaming toNat_natCast→VD,le_refl→Wd
open List renaming map_cons→eg,mem_cons_of_mem→gc,mem_cons_self→gV,length_map→Dk,getElem?_set_ne→HT,range→S3,mem_cons→S4,replicate→S5,size_toArray→S6,getElem?_eq_some_iff→S7,mem_map→Td,getElem?_eq_getElem→Tf,length_append→Tg,mem_singleton→Th,getElem?_append_left→Tn,mem_append→Tp,length_range→Tu,map_append→Tv,mem_range→Tw,mem_append_right→TF,nodup_cons→TH,getElem?_map→TJ,getElem?_set_self→TN,length_cons→TV,filter_cons→TX,getElem?_append_right→TZ,mem_filter→T3,length_set→T4,mem_append_left→T6,getElem?_eq_none→Uc,filterMap_cons→Ue,all_eq_true→Ug,set_append_right→Uh,lookup_cons→Ui,map_map→Uj,filter_congr→Uk,pairwise_iff_getElem→Ul,zip_cons_cons→Um,length_take→Uo,getElem?_replicate→Uq,filter_cons_of_neg→Ur,filter_cons_of_pos→Us,append_nil→Uu,pairwise_cons→Uv,filter_filter→Uw,flatten_cons→Uy,length_filter_le→UA,nodup_append→UE,find?_cons→UH,replicate_succ→UJ,getElem?_range→UK,length_reverse→UL,getElem_of_mem→UM,map_congr_left→UN,map_id→UO,getD_eq_getElem?_getD→UP,not_mem_nil→UQ,length_singleton→UR,of_mem_zip→UY,mem_of_getElem?→UZ,pairwise_map→U3,any_cons→U4,filter_sublist→U5,any_eq_true→U6,find?_eq_none→Va,drop_eq_getElem_cons→Vg,mem_of_find?_eq_some→Vi,getElem?_take_of_lt→Vm,length_drop→Vo,filter_eq_self→Vr,length_eq_zero_iff→Vu,mem_filterMap→Vw,foldl_cons→Vx,length_nil→Vy,eq_nil_of_length_eq_zero→Vz,append_assoc→VA,getElem?_set→VB,ext_getElem?→VC,length_replicate→VE,take_append_drop→VG,take_left→VH,cons_append→VI,mem_of_mem_take→VL,nil_append→VN,filter_append→VZ,getElem?_cons_succ→V3,take_of_length_le→Wa,drop_length→Wg,getElem?_reverse→Wn,map_nil→Wu,mem_of_mem_drop→Ww,find?_some→Wx,range_succ→Wy,map_eq_cons_iff→WD,all_cons→WQ,reverse_cons→WX,foldl→WY,isEmpty_nil→W4,Sublist→W5,forIn_cons→W9,filter_map→Xd,Pairwise→Xr,set_set→Xu,Perm→Xw
open List.Pairwise renaming imp_of_mem→VS
open List.Perm renaming swap→Xi
open Nat renaming le_refl→PU,ne_of_lt→Ti,lt_of_lt_of_le→Tj,le_trans→Tq,zero_le→TM,le_of_ble_eq_true→Ud,lt_irrefl→Uz,ne_of_gt→UC,lt_succ_of_lt→UD,lt_of_le_of_lt→US,eq_or_lt_of_le→UU,not_lt→U7,le_of_lt_succ→Vf,zero_add→Vn,le_of_lt→VP,succ_pos→VU,mod_lt→V1,lt_succ_self→Wf,le_add_right→Wh,lt_or_ge→WC,sub_self→WE,pow_le_pow_right→WG,le_succ→WL,add_sub_cancel→WN,le_of_eq→W0,div_eq_of_lt→W3,two_pow_pos→Xe,lt_trans→Xs,add_zero→Xv,pow_succ→Xx
open Option renaming getD_some→VJ,isSome_map→V5
open PyProof.Rows renaming callWith_type1→Ub
open PyProof.Rows.F renaming plain_set_update_loop→V4
open PyProof.Rows.KeyOrd renaming kle_refl→UI,kle_of_klt→V6,kle_trans→Wj
open PyProof.Rows.SortSt renaming mk'→WZ
open PySem.Builtin renaming bitAnd→WI
open PySem.Builtin.List renaming listLengthHint→U8,listExtendWith→U9,listTooLong→VQ
open PySem.Builtin.Tuple renaming tupleCompareSizes→Vs
open PySem.Calls renaming spliced_nil→U1,callWith_builtin→V9,evalArgs_plain→Wq,spliced_cons→WM
open PySem.Data renaming cell→W8,fields→Xy
open PySem.F renaming plainAttrs_list→Vt,slot_dict_get→Wm
open PySem.Heap renaming get?_push_of_some→Ds,lt_size→S9,get?_push_size→To,get?_update_ne→Ux,size_push→UT,get?_update_self→Vb,get?_push_ne→Ve,SameBut→Vl,size_update→Vp,get?_update_other→V8,get?_none_of_le→Wo
open PySem.Heap.SameBut renaming update→Vq
open PySem.NameKind renaming cell→Xp
open PySem.Obj renaming mapSeq→T5,data_mapFields→VX,putSet→V2
open PySem.PassesOwn renaming never→Ua
open PySem.PyData renaming eqv→UG,depthAll→Vc,eqvAll→WO,canLayAll0→WW
open PySem.SetTable renaming grown→Xl
open PySem.Str renaming ofString→VR
open PySem.Value renaming ref→Tz,int→Vj,type→Vv,isInt_shape→WU,str→W6,none→Xo,bool→Xz
open PySem.W renaming Frag→Dp,fnOf→TR,nsIn→T7,keepIn→Ut,kia_one→UB,codeIn→Vk,cellsFrom_some→V7,kat_cons→Wl,kat_yes→Wv,CodeHd→WJ,tabObj→WK,methodObj→WV,instObj→W7,OpenLaw→Xc,lookIn→Xg,kitOne→Xh,kat_no→Xj,kla_fn→Xm,noTabs→Xn
open Sum renaming inl→TU,inr→WH
open True renaming intro→UX
noncomputable section
set_option Elab.async false
set_option linter.all false

set_option maxRecDepth 100000
local macro_rules|`(tactic|trivial)=>`(tactic|first|exact Or.inl rfl|exact Or.inr rfl|exact Or.inr (Or.inl rfl)|exact Or.inr (Or.inr rfl)|assumption)
local macro_rules|`(tactic|and_intros)=>`(tactic|dsimp only[List.map,List.replicate,List.cons_append,List.nil_append])
namespace L2
open PySem PySem.Spec PyProof.Rows
section
variable{a b:Addr}{H:Hp}{o:HO}
noncomputable abbrev Key:=Sum Int Str
noncomputable def qp:Key->Value->Bool
 |.inl k,v=>Value.isInt k v
 |.inr x,v=>Value.isStrOf x v
noncomputable def Ry(w:World):Key->Int
 |.inl k=>hashInt k
 |.inr x=>hashStr w x
theorem bx:∀{k:Key} {v:Value},qp k v=true->(∃i t,k=TU i/\v=Vj i t)\/(∃x t,k=WH x/\v=W6 x t)
 |.inl i,v,h=>by obtain⟨t,e⟩:=WU (k:=i) (v:=v) h;exact .inl ⟨i,t,rfl,e⟩
 |.inr x,v,h=>by obtain⟨t,e⟩:=Value.isStrOf_shape (x:=x) (v:=v) h;exact .inr ⟨x,t,rfl,e⟩
theorem AB(i:Int)(t:Tok):qp (.inl i) (.int i t)=true:=by simp[qp,Value.isInt]
theorem AD(x:Str)(t:Tok):qp (.inr x) (.str x t)=true:=by simp[qp,Value.isStrOf]
theorem K6(a b:Int):decide ((TU a:Key)=TU b)=(a == b):=by
 by_cases e:a=b
 ·subst e;simp
 ·have h:¬(TU a:Key)=TU b:=fun q=>e (TU.inj q);rw[decide_eq_false h];exact(beq_eq_false_iff_ne.mpr e).symm
theorem K7(a b:Str):decide ((WH a:Key)=WH b)=decide (a=b):=by
 by_cases e:a=b
 ·subst e;simp
 ·have h:¬(WH a:Key)=WH b:=fun q=>e (WH.inj q);rw[decide_eq_false h,decide_eq_false e]
theorem K8(a:Int)(b:Str):decide ((TU a:Key)=WH b)=false:=decide_eq_false (fun q=>nomatch q)
theorem K9(a:Str)(b:Int):decide ((WH a:Key)=TU b)=false:=decide_eq_false (fun q=>nomatch q)
noncomputable def a_(prog:Program)(w:World):PySem.KeyKind prog w Key where
 is:=qp
 hash:=Ry w
 inj:=fun v a b ha hb=>by
  rcases bx ha with⟨i,t,rfl,rfl⟩ | ⟨x,t,rfl,rfl⟩
  ·rcases bx hb with⟨j,u,rfl,e⟩ | ⟨y,u,rfl,e⟩
   ·injection e with e1 _;rw[e1]
   ·exact nomatch e
  ·rcases bx hb with⟨j,u,rfl,e⟩ | ⟨y,u,rfl,e⟩
   ·exact nomatch e
   ·injection e with e1 _;rw[e1]
 byValue:=fun k v h=>by rcases bx h with⟨i,t,rfl,rfl⟩ | ⟨x,t,rfl,rfl⟩<;>rfl
 pyHash:=fun hv h=>by
  rcases bx hv with⟨i,t,rfl,rfl⟩ | ⟨x,t,rfl,rfl⟩
  ·exact wpAny_pyHash_int h
  ·exact wpAny_pyHash_str h
 eqBool:=fun hu hv h=>by
  rcases bx hu with⟨i,t,rfl,rfl⟩ | ⟨x,t,rfl,rfl⟩
  ·rcases bx hv with⟨j,u,rfl,rfl⟩ | ⟨y,u,rfl,rfl⟩
   ·rw[K6]at h;exact wpAny_eqBool_int h
   ·rw[K8]at h;exact SeqAt.EqAt.int_str i t y u _ _ _ _ h
  ·rcases bx hv with⟨j,u,rfl,rfl⟩ | ⟨y,u,rfl,rfl⟩
   ·rw[K9]at h;exact SeqAt.EqAt.str_int x t j u _ _ _ _ h
   ·rw[K7]at h;exact wpAny_eqBool_str h
 «strs»:=fun k x t v h=>by
  rcases bx h with⟨i,u,rfl,e⟩ | ⟨y,u,rfl,e⟩
  ·exact nomatch e
  ·injection e with e1 _
   subst e1;cases v<;>rfl
theorem tS(prog:Program)(w:World)(i:Int)(t:Tok):(a_ prog w).is (.inl i) (.int i t)=true:=AB i t
theorem tT(prog:Program)(w:World)(x:Str)(t:Tok):(a_ prog w).is (.inr x) (.str x t)=true:=AD x t
inductive V where
 |non | bl (b:Bool) | int (i:Int) | str (x:Str) | byt (b:Array UInt8) | flt (b:UInt64) | ref (a:Addr) | ty (n:String)
 deriving DecidableEq
def RelV:V->Value->Prop
 |.non,u=>u=Xo
 |.bl b,u=>u=Xz b
 |.int i,u=>∃t,u=Vj i t
 |.str x,u=>∃t,u=W6 x t
 |.byt b,u=>∃t,u=Value.bytes b t
 |.flt b,u=>∃t,u=Value.float b t
 |.ref a,u=>u=Tz a
 |.ty n,u=>u=Vv n
noncomputable abbrev Vals:List V->List Value->Prop:=Paired RelV
theorem Vals.length{xs:List V}{us:List Value}(r:Vals xs us):xs.length=us.length:=Paired.length r
theorem Vals.get:∀{xs:List V} {us:List Value} {i:Nat} {x:V},Vals xs us->xs[i]?=some x->∃u,us[i]?=some u/\RelV x u
 |_,_,_,_,.nil,e=>by simp at e
 |_,_,0,_,.cons r _,e=>by simp at e;subst e;exact⟨_,rfl,r⟩
 |_,_,i+1,x,.cons _ t,e=>by obtain⟨u,h1,h2⟩:=Vals.get (i:=i) (x:=x) t (by simpa using e);exact⟨u,by simpa using h1,h2⟩
theorem Vals.set{x:V}{u:Value}(r:RelV x u):∀{xs:List V} {us:List Value} (i:Nat),Vals xs us->Vals (xs.set i x) (us.set i u)
 |_,_,_,.nil=>.nil
 |_,_,0,.cons _ t=>.cons r t
 |_,_,i+1,.cons q t=>.cons q (Vals.set r i t)
theorem Vals.append:∀{xs ys:List V} {us ws:List Value},Vals xs us->Vals ys ws->Vals (xs++ys) (us++ws)
 |_,_,_,_,.nil,s=>s
 |_,_,_,_,.cons r t,s=>.cons r (Vals.append t s)
def jn:Option V->Option Value->Prop
 |some v,some u=>RelV v u
 |none,none=>True
 |_,_=>False
def KV{κ:Type}:List (κ×V)->List (κ×Value)->Prop:=Paired fun(p:κ×V) (q:κ×Value)=>p.1=q.1/\RelV p.2 q.2
noncomputable def kV:Key->V
 |.inl i=>.int i
 |.inr x=>.str x
inductive HO where
 |lst (xs:List V)
 |tup (xs:List V)
 |dK (kvs:List (Key×V)) | dT (kvs:List (List Key×V))
 |set (S:Int->Bool) (n:Nat)
 |ins (C dx:Addr) (fs:List (Str×V))
 |own (x:Addr)
 |xd (fs:List (Str×V))
 |met (f x:Addr)
 |rng (lo hi:Int)
 |frz (o:Obj) (u:HO)
 |tbl (ln cl:Value) (q:Str)
 |ext (φ:Heap->Prop)
noncomputable abbrev Hp:=Addr->Option HO
noncomputable def upd(H:Hp)(a:Addr)(o:HO):Hp:=fun b=>if b=a then some o else H b
theorem aq{a:Addr}:upd H a o a=some o:=by unfold upd;rw[if_pos rfl]
theorem aj(h:b≠a):upd H a o b=H b:=by unfold upd;rw[if_neg h]
theorem OB{o u:HO}(h:H a=some o)(h':H b=some u)(d:o≠u):a≠b:=by intro e;subst e;rw[h]at h';exact d (Option.some.inj h')
theorem aC(h:H a=some o)(h':H b=none):a≠b:=by intro e;subst e;rw[h]at h';cases h'
end
section
variable(P:Program)(w:World)
def aU(H:Hp)(h:Heap)(a:Addr):HO->Prop
 |.lst xs=>xs.length<=sizeLine/\∃(its:List Value) (n:Nat),Vals xs its/\h.get? a=some { cls:=.type "list",data:=.seq its.toArray n }
 |.tup xs=>xs.length<=sizeLine/\∃its:List Value,Vals xs its/\IsTup h a its.toArray
 |.dK kvs=>kvs.length<=sizeLine/\(a == sysModules)=false/\∃vs,KV kvs vs/\h.DictOf (a_ P w) a vs
 |.dT kvs=>kvs.length<=sizeLine/\(a == sysModules)=false/\∃xs:List (List Key×Addr×Value),
   Paired (fun(p:List Key×V) (q:List Key×Addr×Value)=>p.1=q.1/\H q.2.1=some (.tup (p.1.map kV))/\RelV p.2 q.2.2) kvs xs /\
   ∃o es ep,h.get? a=some o/\o.ExactDict/\o.data=.dict es ep/\es.toList=xs.map (entryOfKey (tupleKind (a_ P w)))/\(xs.map (·.1)).Nodup
 |.set S n=>h.SetOf (intKind P w) a S n
 |.ins C dx fs=>H dx=some (.own a)/\fs.length<=1000/\dx≠a/\h.get? a=some (W7 C dx) /\
   ∃mA,h.Ns1 dx mA/\(∀f,jn (fs.lookup f) (mA f))/\PySem.Within mA (fs.map (·.1))
 |.own _=>∃o,h.get? a=some o
 |.xd fs=>∃mA,h.Ns1 a mA/\∀f,jn (fs.lookup f) (mA f)
 |.rng lo hi=>∃t u v,h.get? a=some { cls:=.type "range",data:=.fields #[.int lo t,.int hi u,.int 1 v] }
 |.frz o u=>h.get? a=some o/\aU H h a u
 |.tbl ln cl q=>∃ps:Array Value,h.get? a=some { cls:=.none,data:=.fields ps }/\(ps=#[]\/∃(c:Addr) (oc:Obj) (vs:Array Value) (t:Tok),ps=#[ln,cl,.ref c]/\H c=some (.frz oc (.own a))/\oc.data=.fields vs/\vs[1]?=some (.str q t))
 |.met f x=>h.get? a=some (WV (.ref f) (.ref x))
 |.ext φ=>φ h/\(∃o,h.get? a=some o)/\∀h1 h2:Heap,φ h1->(∀o,h1.get? a=some o->h2.get? a=some o)->φ h2
def HOk(H:Hp)(h:Heap):Prop:=∀a o,H a=some o->aU P w H h a o
end
section
variable{P:Program}{w:World}{H H':Hp}{h h':Heap}{a:Addr}{o:HO}
theorem aU.lt(x:aU P w H h a o):a<h.objs.size:=by
 cases o with
 |lst xs=>obtain⟨_,_,_,_,e⟩:=x;exact S9 e
 |tup xs=>obtain⟨_,_,_,p⟩:=x;exact p.lt
 |dK kvs=>obtain⟨_,_,_,_,o,_,_,e,_⟩:=x;exact S9 e
 |dT kvs=>obtain⟨_,_,_,_,o,_,_,e,_⟩:=x;exact S9 e
 |set S n=>obtain⟨o,_,_,_,e,_⟩:=x;exact S9 e
 |ins C dx fs=>obtain⟨_,_,_,e,_⟩:=x;exact S9 e
 |own y=>obtain⟨_,e⟩:=x;exact S9 e
 |xd fs=>obtain⟨_,⟨_,_,_,e,_⟩,_⟩:=x;exact S9 e
 |rng lo hi=>obtain⟨_,_,_,e⟩:=x;exact S9 e
 |frz ob u=>obtain⟨e,_⟩:=x;exact S9 e
 |tbl ln cl q=>obtain⟨_,e,_⟩:=x;exact S9 e
 |met f y=>exact S9 (show h.get? a=some _ from x)
 |ext φ=>obtain⟨_,⟨_,e⟩,_⟩:=x;exact S9 e
theorem Paired.B0{α β:Type}{F G:α->β->Prop}:∀{l₁:List α} {l₂:List β},Paired F l₁ l₂->(∀a b,F a b->G a b)->Paired G l₁ l₂
 |_,_,.nil,_=>.nil
 |_,_,.cons r t,f=>.cons (f _ _ r) (Paired.B0 t f)
theorem aU.stay(x:aU P w H h a o)(k:∀b u,(b=a\/H b=some (.own a))->h.get? b=some u->h'.get? b=some u)
  (ho:∀b,H b=some (.own a)->H' b=some (.own a)) (hf:∀b o c,H b=some (.frz o (.own c))->H' b=some (.frz o (.own c))) (ht:∀b xs,H b=some (.tup xs)->H' b=some (.tup xs)):aU P w H' h' a o:=by
 induction o with
 |lst xs=>obtain⟨z,its,n,r,e⟩:=x;exact⟨z,its,n,r,k _ _ (.inl rfl) e⟩
 |tup xs=>obtain⟨z,its,r,ob,e,c⟩:=x;exact⟨z,its,r,ob,k _ _ (.inl rfl) e,c⟩
 |dK kvs=>obtain⟨z,y,vs,r,ob,es,ep,e,c⟩:=x;exact⟨z,y,vs,r,ob,es,ep,k _ _ (.inl rfl) e,c⟩
 |dT kvs=>obtain⟨z,y,xs,r,ob,es,ep,e,c⟩:=x;exact⟨z,y,xs,Paired.B0 r fun p q z=>⟨z.1,ht _ _ z.2.1,z.2.2⟩,ob,es,ep,k _ _ (.inl rfl) e,c⟩
 |set S n=>obtain⟨ob,es,ep,t,e,c⟩:=x;exact⟨ob,es,ep,t,k _ _ (.inl rfl) e,c⟩
 |ins C dx fs=>obtain⟨d,z,ne,e,mA,⟨od,es,ep,e2,c⟩,r⟩:=x;exact⟨ho _ d,z,ne,k _ _ (.inl rfl) e,mA,⟨od,es,ep,k _ _ (.inr d) e2,c⟩,r⟩
 |own y=>obtain⟨ob,e⟩:=x;exact⟨ob,k _ _ (.inl rfl) e⟩
 |xd fs=>obtain⟨mA,⟨od,es,ep,e,c⟩,r⟩:=x;exact⟨mA,⟨od,es,ep,k _ _ (.inl rfl) e,c⟩,r⟩
 |rng lo hi=>obtain⟨t,u,v,e⟩:=x;exact⟨t,u,v,k _ _ (.inl rfl) e⟩
 |frz ob u ih=>obtain⟨e,q⟩:=x;exact⟨k _ _ (.inl rfl) e,ih q⟩
 |tbl ln cl q=>
  obtain⟨ps,e,d⟩:=x;refine⟨ps,k _ _ (.inl rfl) e,?_⟩;rcases d with d | ⟨c,oc,vs,t,d,d2,d3⟩
  ·exact .inl d
  ·exact .inr ⟨c,oc,vs,t,d,hf _ _ _ d2,d3⟩
 |met f y=>have e:h.get? a=some (WV (.ref f) (.ref y)):=x;show h'.get? a=some (WV (.ref f) (.ref y));exact k a _ (.inl rfl) e
 |ext φ=>obtain⟨p,⟨o,e⟩,st⟩:=x;exact⟨st _ _ p fun o q=>k _ _ (.inl rfl) q,⟨o,k _ _ (.inl rfl) e⟩,st⟩
theorem HOk.lt(x:HOk P w H h)(e:H a=some o):a<h.objs.size:=(x a o e).lt
theorem HOk.fresh(x:HOk P w H h)(e:h.objs.size<=a):H a=none:=by
 cases q:H a with
 |none=>rfl
 |some u=>exact absurd (Tj (x.lt q) e) (Uz _)
theorem HOk.kept(x:HOk P w H h)(k:∀b u,h.get? b=some u->h'.get? b=some u):HOk P w H h':=fun a o e=>(x a o e).stay (fun b u _ q=>k b u q) (fun _ q=>q) (fun _ _ _ q=>q) fun _ _ q=>q
theorem HOk.laid(x:HOk P w H h)(k:∀b u,h.get? b=some u->h'.get? b=some u)(hp:h.objs.size<=a)(new:aU P w (upd H a o) h' a o):HOk P w (upd H a o) h':=fun b u e=>by
 have hn:=x.fresh hp;by_cases hb:b=a
 ·subst hb;rw[aq]at e;cases e;exact new
 ·rw[aj hb]at e;exact(x b u e).stay (fun c v _ q=>k c v q) (fun c q=>by rw[aj (aC q hn)];exact q) (fun c _ _ q=>by rw[aj (aC q hn)];exact q) fun c xs q=>by rw[aj (aC q hn)];exact q
end
def Rd(H:Hp)(a:Addr)(u:HO):Prop:=H a=some u\/∃o,H a=some (.frz o u)
theorem Rd.ok{P:Program}{w:World}{H:Hp}{h:Heap}{a:Addr}{u:HO}(r:Rd H a u)(x:HOk P w H h):aU P w H h a u:=by
 rcases r with r | ⟨o,r⟩
 ·exact x a u r
 ·obtain⟨_,q⟩:=x a _ r;exact q
def Mut:Option HO->Prop
 |some (.lst _)=>True
 |some (.dK _)=>True
 |some (.dT _)=>True
 |some (.set _ _)=>True
 |some (.ins _ _ _)=>True
 |some (.ext _)=>True
 |_=>False
section
variable{P:Program}{w:World}{H:Hp}{h h':Heap}{x e:Addr}{o':HO}
theorem HOk.write(ok:HOk P w H h)(mu:Mut (H x))(he:e=x\/H e=some (.own x))(k:∀b u,b≠e->h.get? b=some u->h'.get? b=some u)(heo:∃u,h'.get? e=some u)
  (new:aU P w (upd H x o') h' x o'):HOk P w (upd H x o') h':=fun b u q=>by
 have OC:∀c y,H c=some (.own y)->c≠x:=fun c y r z=>by subst z;rw[r]at mu;exact mu
 have Rz:∀c xs,H c=some (.tup xs)->c≠x:=fun c xs r z=>by subst z;rw[r]at mu;exact mu
 have RA:∀c o y,H c=some (.frz o y)->c≠x:=fun c o y r z=>by subst z;rw[r]at mu;exact mu
 by_cases hb:b=x
 ·subst hb;rw[aq]at q;cases q;exact new
 ·rw[aj hb]at q;by_cases hbe:b=e
  ·have q':H b=some (.own x):=by
    rcases he with z | z
    ·exact absurd (hbe.trans z) hb
    ·rw[hbe];exact z
   rw[q]at q';cases q';obtain⟨v,hv⟩:=heo;exact⟨v,by rw[hbe];exact hv⟩
  ·refine(ok b u q).stay (fun c v hc r=>k c v ?_ r) (fun c r=>by rw[aj (OC c b r)];exact r) (fun c _ _ r=>by rw[aj (RA c _ _ r)];exact r) fun c xs r=>by rw[aj (Rz c xs r)];exact r
   rcases hc with rfl | hc
   ·exact hbe
   ·rintro rfl;rcases he with z | z
    ·exact OC c b hc z
    ·rw[hc]at z;cases z;exact hb rfl
end
structure Un(fs ex:List Addr)(H H':Hp)(h h':Heap):Prop where
 keep:∀b o,h.get? b=some o->H b=none->b∉fs->b∉ex->h'.get? b=some o
 slot:∀b o,h.get? b=some o->H b=none->b∈fs->b∉ex->∃sl,h'.get? b=some { o with slots:=sl }
 free:∀b o,h.get? b=some o->H b=none->b∉ex->H' b=none
 there:∀b o,h.get? b=some o->b∉ex->∃o',h'.get? b=some o'
 tups:∀b xs,H b=some (.tup xs)->H' b=some (.tup xs)
 p6:∀b o u,H b=some (.frz o u)->H' b=some (.frz o u)
 lH:∀b x y z,H b=some (.tbl x y z)->H' b=some (.tbl x y z)
section
variable{fs fs' ex ex':List Addr}{H H1 H2:Hp}{h h1 h2 h':Heap}{a x e:Addr}{o:HO}
theorem Un.any(u:Un fs ex H H1 h h1){b:Addr}{ob:Obj}(q:h.get? b=some ob)(n:H b=none)(hx:b∉ex):∃sl,h1.get? b=some { ob with slots:=sl }:=by
 by_cases hb:b∈fs
 ·exact u.slot b ob q n hb hx
 ·exact⟨ob.slots,u.keep b ob q n hb hx⟩
theorem Un.kept(k:∀b u,h.get? b=some u->h'.get? b=some u):Un fs ex H H h h':=
 ⟨fun b ob q _ _ _=>k b ob q,fun b ob q _ _ _=>⟨ob.slots,k b ob q⟩,fun _ _ _ n _=>n,fun b ob q _=>⟨ob,k b ob q⟩,fun _ _ q=>q,fun _ _ _ q=>q,fun _ _ _ _ q=>q⟩
theorem Un.refl:Un fs ex H H h h:=Un.kept fun _ _ q=>q
theorem Un.laid(k:∀b u,h.get? b=some u->h'.get? b=some u)(hp:h.objs.size<=a)(hn:H a=none):Un fs ex H (upd H a o) h h' where
 keep:=fun b u q _ _ _=>k b u q
 slot:=fun b u q _ _ _=>⟨u.slots,k b u q⟩
 free:=fun b u q n _=>by rw[aj (Ti (Tj (S9 q) hp))];exact n
 there:=fun b u q _=>⟨u,k b u q⟩
 tups:=fun b xs q=>by rw[aj (aC q hn)];exact q
 p6:=fun b u xs q=>by rw[aj (aC q hn)];exact q
 lH:=fun b _ _ _ q=>by rw[aj (aC q hn)];exact q
theorem Un.write(mu:Mut (H x))(he:e=x\/H e=some (.own x))(k:∀b u,b≠e->h.get? b=some u->h'.get? b=some u)(heo:∃u,h'.get? e=some u):Un fs ex H (upd H x o) h h':=by
 have hx:∀b,H b=none->b≠x:=fun b n z=>by subst z;rw[n]at mu;exact mu
 have hb:∀b,H b=none->b≠e:=fun b n z=>by
  subst z;rcases he with r | r
  ·exact hx b n r
  ·rw[n]at r;cases r
 have hm:∀b u,H b=some u->¬Mut (some u)->b≠x:=fun b u q nm z=>by subst z;rw[q]at mu;exact nm mu
 refine ⟨fun b u q n _ _=>k b u (hb b n) q,fun b u q n _ _=>⟨u.slots,k b u (hb b n) q⟩,fun b u q n _=>by rw [aj (hx b n)];exact n,fun b u q _=>?_,
  fun b xs q=>by rw[aj (hm b _ q fun z=>z)];exact q,fun b u xs q=>by rw[aj (hm b _ q fun z=>z)];exact q,fun b _ _ _ q=>by rw[aj (hm b _ q fun z=>z)];exact q⟩
 by_cases hbe:b=e
 ·subst hbe;exact heo
 ·exact⟨u,k b u hbe q⟩
end
section
variable{b:Addr}{h:Heap}{o:Obj}{H:Hp}
noncomputable def trk(h:Heap)(H:Hp):List Addr:=(S3 h.objs.size).filter fun a=>(H a).isSome
noncomputable def p7(h:Heap)(H:Hp):Heap:=PySem.W.hideAll h (trk h H)
theorem AE(h:Heap)(H:Hp):(p7 h H).objs.size=h.objs.size:=PySem.W.hideAll_size _ _
theorem B3(e:h.get? b=some o)(n:H b=none):(p7 h H).get? b=some o:=
 PySem.W.hideAll_get _ e fun hm=>by have q:(H b).isSome=true:=(T3.mp hm).2;rw[n]at q;simp at q
theorem GI(e:(p7 h H).get? b=some o):h.get? b=some o/\H b=none:=by
 have e':h.get? b=some o:=PySem.W.of_hideAll (trk h H) e;refine⟨e',?_⟩;cases q:H b with
 |none=>rfl
 |some x=>have hm:b∈trk h H:=T3.mpr ⟨Tw.mpr (S9 e'),by simp[q]⟩;have z:(p7 h H).get? b=none:=PySem.W.hideAll_none (trk h H) hm;rw[z]at e;cases e
structure Mod(K:Dp)(mg:Str->Option Value)(base:Heap):Prop where
 kin:K.In base
 glob:base.Ns mainGlobals mg
 blt:∃mb,base.Ns builtinsNs mb/\∀x:Str,x ≠ "__name__" -> mb x=bootBuiltins x
 nolimit:base.NoLimit
structure Cx where
 prog:Program
 w:World
 K:Dp
 mg:Str->Option Value
 base:Heap
 A:Around
 N:List Str
 s₀:Shared
 H₀:Hp
 env:Env
 outer:List Env
 stack:List Env
 ex:List Addr
 fn:Str->Bool
 calm:Bool
 pn:List (Addr×Obj)
 xe:Value->Shared->Prop
noncomputable def frs(l:List Env):List Addr:=l.filterMap (·.frame)
noncomputable abbrev Cx.fs(X:Cx):List Addr:=frs X.outer
def Vis(sc:Scope)(x:Str):Prop:=sc.names.lookup x=some .local\/sc.names.lookup x=some .cell\/sc.names.lookup x=some .free
def Loc(sc:Scope)(x:Str):Prop:=sc.names.lookup x=some .local\/sc.names.lookup x=some .cell
def Look(env:Env)(h:Heap)(m:Str->Option Value)(x:Str)(u:Value):Prop:=
 (env.kindOf x=some .local/\m x=some u)\/((env.kindOf x=some .cell\/env.kindOf x=some .free)/\∃c,env.cells.lookup x=some c/\h.IsCell c (some u))
structure Cx.Ok(X:Cx):Prop where
 mod:Mod X.K X.mg X.base
 kind:X.env.scope.kind=.function
 glob:X.env.globals=mainGlobals
 blt:X.env.builtins=builtinsNs
 above:X.s₀.heap.objs.size<=X.env.locals
 inj:∀x y c,X.env.cells.lookup x=some c->X.env.cells.lookup y=some c->x=y
 has:∀x,(X.env.kindOf x=some .cell\/X.env.kindOf x=some .free)->∃c,X.env.cells.lookup x=some c
 cab:∀x c,X.fn x=true->X.env.cells.lookup x=some c->X.s₀.heap.objs.size<=c
 hd:X.calm=true->X.A.handled=none
 frames:X.A.frames=some X.stack
 stk:X.stack=X.outer\/(X.stack=X.env::X.outer/\X.env.frame=some X.env.locals)
 exf:∀b∈X.ex,b≠X.env.locals/\∀x c,X.env.cells.lookup x=some c->c≠b
 bs:∀b o,X.base.get? b=some o->X.s₀.heap.get? b=some o/\X.H₀ b=none
 bsz:X.base.objs.size<=X.s₀.heap.objs.size
 B4:∀b o,X.base.get? b=some o->b∉X.ex
 GJ:∀b∈X.ex,b∉X.fs
 lI:X.s₀.heap.FunFrames X.base X.outer
 frf:∀b∈X.fs,X.H₀ b=none
structure Inv(X:Cx)(sV:List (Addr×Obj))(σ:List (Option V))(H:Hp)(s:Shared):Prop where
 ok:X.Ok
 os:s.os=X.s₀.os
 bare:AllBare s.gens
 base:Un X.fs X.ex X.H₀ H X.s₀.heap s.heap
 loc:∃m,s.heap.Ns X.env.locals m/\∀(i:Nat) (x:Str) (v:V),X.N[i]?=some x->σ[i]?=some (some v)->Vis X.env.scope x->∃u,RelV v u/\Look X.env s.heap m x u
 cell:∀x c,X.env.cells.lookup x=some c->∃v,s.heap.IsCell c v
 free:H X.env.locals=none
 fS:∀x c,X.env.cells.lookup x=some c->H c=none
 pin:∀p∈X.pn++sV,s.heap.get? p.1=some p.2/\H p.1=none/\p.1≠X.env.locals/\p.1∉X.fs/\∀v,p.2.data≠.cell v
 hok:HOk X.prog X.w H s.heap
 len:σ.length=X.N.length
end
section
variable{X:Cx}{sV:List (Addr×Obj)}{σ:List (Option V)}{H H':Hp}{s:Shared}{h':Heap}
section
variable{ch:List Addr}{x:Str}{u:Value}{a:Addr}{t':Nat}{i:Nat}{v:V}
theorem Cx.Ok.RB(ok:X.Ok){b:Addr}{o:Obj}(e:X.base.get? b=some o):b∉X.fs:=fun hb=>by have:=(ok.lI.mem hb).1;rw[e]at this;cases this
theorem Inv.bs(I:Inv X sV σ H s):∀b o,X.base.get? b=some o->s.heap.get? b=some o/\H b=none:=fun b o e=>⟨I.base.keep b o (I.ok.bs b o e).1 (I.ok.bs b o e).2 (I.ok.RB e) (I.ok.B4 b o e),I.base.free b o (I.ok.bs b o e).1 (I.ok.bs b o e).2 (I.ok.B4 b o e)⟩
theorem Inv.bk(I:Inv X sV σ H s):∀b o,X.base.get? b=some o->s.heap.get? b=some o:=fun b o e=>(I.bs b o e).1
theorem Inv.mod(I:Inv X sV σ H s):Mod X.K X.mg X.base:=I.ok.mod
theorem Inv.kIn(I:Inv X sV σ H s):X.K.In s.heap:=I.ok.mod.kin.keeps I.bk
theorem Inv.lt(I:Inv X sV σ H s):X.env.locals<s.heap.objs.size:=let ⟨_,hn,_⟩:=I.loc;hn.lt
theorem Inv.sz(I:Inv X sV σ H s):X.s₀.heap.objs.size<=s.heap.objs.size:=Tq I.ok.above (VP I.lt)
theorem Inv.K_(I:Inv X sV σ H s)(h:s.heap.objs.size<=a):a∉X.fs:=fun hb=>by obtain⟨_,o,ho,_⟩:=I.ok.lI.mem hb;exact absurd (Tj (S9 ho) (Tq I.sz h)) (Uz _)
theorem Inv.cne(I:Inv X sV σ H s):∀x c,X.env.cells.lookup x=some c->c≠X.env.locals:=fun x c e z=>by obtain⟨v,o,ho,hd⟩:=I.cell x c e;obtain⟨m,⟨o',es,ep,ho',hd',_⟩,_⟩:=I.loc;rw[z,ho']at ho;cases ho;rw[hd']at hd;cases hd
theorem Inv.lI(I:Inv X sV σ H s):s.heap.FunFrames X.base X.outer:=by
 have all:∀(l:List Env),(∀b∈frs l,b∈X.fs)->X.s₀.heap.FunFrames X.base l->s.heap.FunFrames X.base l:=by
  intro l
  induction l with
  |nil=>intro _ _;trivial
  |cons env r ih=>intro hs hl;obtain⟨hk,⟨L,o,hf,hn,ho,hd⟩,hr⟩:=hl;have hL:L∈X.fs:=hs L (by unfold frs;rw[Ue,hf];exact gV);obtain⟨sl,e⟩:=I.base.slot L o ho (I.ok.frf L hL) hL fun z=>I.ok.GJ L z hL;exact⟨hk,⟨L,_,hf,hn,e,hd⟩,ih (fun b hb=>hs b (by unfold frs;rw[Ue,hf];exact gc _ hb)) hr⟩
 exact all X.outer (fun _ hb=>hb) I.ok.lI
theorem Inv.stack(I:Inv X sV σ H s):s.heap.FunFrames X.base X.stack:=by
 rcases I.ok.stk with e | ⟨e,hf⟩
 ·rw[e];exact I.lI
 ·rw[e];obtain⟨m,hn,_⟩:=I.loc;refine .cons (by rw[I.ok.kind];decide) hf hn ?_ I.lI;exact Wo (Tq I.ok.bsz I.ok.above)
theorem Inv.rV(I:Inv X sV σ H s):∀b∈frs X.stack,b∈X.env.locals::X.fs:=fun b hb=>by
 rcases I.ok.stk with e | ⟨e,hf⟩
 ·rw[e]at hb;exact gc _ hb
 ·rw[e]at hb;unfold frs at hb;rw[Ue,hf]at hb;exact hb
theorem Inv.yS(I:Inv X sV σ H s):∀b∈frs X.stack,H b=none:=fun b hb=>by
 rcases S4.mp (I.rV b hb) with e | hb
 ·rw[e];exact I.free
 ·obtain⟨_,o,ho,_⟩:=I.ok.lI.mem hb;exact I.base.free b o ho (I.ok.frf b hb) fun z=>I.ok.GJ b z hb
theorem Inv.step{g':Array GenState}{t':Nat}{d':Drawn}{ch:List Addr}(I:Inv X sV σ H s)
  (hch:∀b∈ch,(b∈X.ex\/X.s₀.heap.objs.size<=b)/\b≠X.env.locals/\(∀x c,X.env.cells.lookup x=some c->c≠b)/\∀p∈X.pn++sV,p.1≠b)
  (keep:∀b o,b≠X.env.locals->b∉X.fs->b∉ch->s.heap.get? b=some o->H b=none->h'.get? b=some o)
  (slot:∀b o,b≠X.env.locals->b∈X.fs->b∉ch->s.heap.get? b=some o->H b=none->∃sl,h'.get? b=some { o with slots:=sl }) (free:∀b o,b∉ch->s.heap.get? b=some o->H b=none->H' b=none)
  (there:∀b o,b∉ch->s.heap.get? b=some o->∃o',h'.get? b=some o')
  (tups:∀b xs,H b=some (.tup xs)->H' b=some (.tup xs)) (p6:∀b o u,H b=some (.frz o u)->H' b=some (.frz o u)) (lH:∀b x y z,H b=some (.tbl x y z)->H' b=some (.tbl x y z))
  (ns:∀m,s.heap.Ns X.env.locals m->h'.Ns X.env.locals m) (hok:HOk X.prog X.w H' h') (hg:AllBare g') :
  Inv X sV σ H' { s with heap:=h',gens:=g',drawn:=d',toks:=t' }:=by
 have neL:∀b o,X.s₀.heap.get? b=some o->b≠X.env.locals:=fun b o e=>Ti (Tj (S9 e) I.ok.above);have neC:∀b o,X.s₀.heap.get? b=some o->b∉X.ex->b∉ch:=fun b o e hx hb=>by
  rcases (hch b hb).1 with z | z
  ·exact hx z
  ·exact absurd (Tj (S9 e) z) (Uz _)
 have cellK:∀x c,X.env.cells.lookup x=some c->∀v,s.heap.IsCell c v->h'.IsCell c v:=fun x c e v ⟨o,ho,hd⟩=>by
  have nch:c∉ch:=fun z=>(hch c z).2.2.1 x c e rfl;by_cases hc:c∈X.fs
  ·obtain⟨sl,q⟩:=slot c o (I.cne x c e) hc nch ho (I.fS x c e);exact⟨_,q,hd⟩
  ·exact⟨o,keep c o (I.cne x c e) hc nch ho (I.fS x c e),hd⟩
 refine⟨I.ok,I.os,hg,⟨fun b o e n hb hx=>?_,fun b o e n hb hx=>?_,fun b o e n hx=>?_,fun b o e hx=>?_,fun b xs e=>tups b xs (I.base.tups b xs e),fun b o xs e=>p6 b o xs (I.base.p6 b o xs e),fun b x y z e=>?_⟩,?_,fun x c e=>?_,?_,fun x c e=>?_,fun p hp=>?_,hok,I.len⟩
 ·exact keep b o (neL b o e) hb (neC b o e hx) (I.base.keep b o e n hb hx) (I.base.free b o e n hx)
 ·obtain⟨sl,e1⟩:=I.base.slot b o e n hb hx;obtain⟨sl',e2⟩:=slot b _ (neL b o e) hb (neC b o e hx) e1 (I.base.free b o e n hx);exact⟨sl',e2⟩
 ·obtain⟨o',e1⟩:=I.base.there b o e hx;exact free b o' (neC b o e hx) e1 (I.base.free b o e n hx)
 ·obtain⟨o',e1⟩:=I.base.there b o e hx;exact there b o' (neC b o e hx) e1
 ·exact lH _ _ _ _ (I.base.lH _ _ _ _ e)
 ·obtain⟨m,hn,hl⟩:=I.loc;refine⟨m,ns m hn,fun i x v e1 e2 e3=>?_⟩;obtain⟨u,r,l⟩:=hl i x v e1 e2 e3;refine⟨u,r,?_⟩;rcases l with l | ⟨k,c,e,z⟩
  ·exact .inl l
  ·exact .inr ⟨k,c,e,cellK x c e _ z⟩
 ·obtain⟨v,z⟩:=I.cell x c e;exact⟨v,cellK x c e v z⟩
 ·obtain⟨m,⟨o,_,_,ho,_⟩,_⟩:=I.loc;exact free _ o (fun z=>(hch _ z).2.1 rfl) ho I.free
 ·obtain⟨v,o,ho,hd⟩:=I.cell x c e;exact free c o (fun z=>(hch c z).2.2.1 x c e rfl) ho (I.fS x c e)
 ·obtain⟨e,n,ne,nf,d⟩:=I.pin p hp;have nch:p.1∉ch:=fun z=>(hch p.1 z).2.2.2 p hp rfl;exact⟨keep p.1 p.2 ne nf nch e n,free p.1 p.2 nch e n,ne,nf,d⟩
theorem Inv.un(I:Inv X sV σ H s)(u:Un X.fs [] H H' s.heap h')(hok:HOk X.prog X.w H' h'):Inv X sV σ H' { s with heap:=h',toks:=t' }:=by
 obtain⟨m,⟨o,es,ep,ho,r⟩,_⟩:=id I.loc;obtain⟨sl,hL⟩:=u.any ho I.free (by simp);exact I.step (g':=s.gens) (d':=s.drawn) (ch:=[]) (fun _ z=>nomatch z) (fun b o _ hb _ e n=>u.keep b o e n hb (by simp)) (fun b o _ hb _ e n=>u.slot b o e n hb (by simp)) (fun b o _ e n=>u.free b o e n (by simp)) (fun b o _ e=>u.there b o e (by simp)) u.tups u.p6 u.lH (fun m' hm=>by obtain⟨o',es',ep',ho',r'⟩:=hm;rw[ho]at ho';cases ho';exact⟨_,es',ep',hL,r'⟩) hok I.bare
theorem Inv.call{g':Array GenState}{t':Nat}{d':Drawn}(I:Inv X sV σ H s)(u:Un (frs X.stack) ch H H' s.heap h')(hok:HOk X.prog X.w H' h')(hg:AllBare g')
  (hch:∀b∈ch,(b∈X.ex\/X.s₀.heap.objs.size<=b)/\b≠X.env.locals/\(∀x c,X.env.cells.lookup x=some c->c≠b)/\∀p∈X.pn++sV,p.1≠b) :
  Inv X sV σ H' { s with heap:=h',gens:=g',drawn:=d',toks:=t' }:=by
 obtain⟨m,⟨o,es,ep,ho,r⟩,_⟩:=id I.loc;obtain⟨sl,hL⟩:=u.any ho I.free fun z=>(hch _ z).2.1 rfl;exact I.step (ch:=ch) hch (fun b o hL hb hc e n=>u.keep b o e n (fun z=>(S4.mp (I.rV b z)).elim hL hb) hc) (fun b o _ _ hc e n=>u.any e n hc) (fun b o hc e n=>u.free b o e n hc) (fun b o hc e=>u.there b o e hc) u.tups u.p6 u.lH (fun m' hm=>by obtain⟨o',es',ep',ho',r'⟩:=hm;rw[ho]at ho';cases ho';exact⟨_,es',ep',hL,r'⟩) hok hg
theorem Inv.turned{t':Nat}{it:Addr}(I:Inv X sV σ H s)(k:∀b o,b≠it->s.heap.get? b=some o->h'.get? b=some o)(hn:H it=none)(hL:it≠X.env.locals)
  (h1:it∈X.ex\/X.s₀.heap.objs.size<=it) (h2:∀x c,X.env.cells.lookup x=some c->c≠it) (h3:∀p∈X.pn++sV,p.1≠it):Inv X sV σ H { s with heap:=h',toks:=t' }:=by
 have nit:∀b u,H b=some u->b≠it:=fun b u e z=>by rw[z,hn]at e;cases e
 refine I.step (g':=s.gens) (d':=s.drawn) (ch:=[it]) (fun b hb=>?_) (fun b o _ _ hc e _=>k b o (fun z=>hc (by simp[z])) e) (fun b o _ _ hc e _=>⟨o.slots,k b o (fun z=>hc (by simp[z])) e⟩) (fun _ _ _ _ n=>n)
  (fun b o hc e=>⟨o,k b o (fun z=>hc (by simp[z])) e⟩) (fun _ _ e=>e) (fun _ _ _ e=>e) (fun _ _ _ _ e=>e) (fun m hm=>?_) (fun b u e=>?_) I.bare
 ·have e:b=it:=by simpa using hb
  subst e;exact⟨h1,hL,h2,h3⟩
 ·obtain⟨o,es,ep,ho,r⟩:=hm;exact⟨o,es,ep,k _ o (Ne.symm hL) ho,r⟩
 ·refine(I.hok b u e).stay (fun c v hc q=>k c v ?_ q) (fun _ q=>q) (fun _ _ _ q=>q) fun _ _ q=>q;rcases hc with z | z
  ·rw[z];exact nit b u e
  ·exact nit c _ z
theorem Inv.tok(I:Inv X sV σ H s)(t:Nat):Inv X sV σ H { s with toks:=t }:=I.un (h':=s.heap) (t':=t) Un.refl I.hok
theorem Inv.kept(I:Inv X sV σ H s)(k:∀b u,s.heap.get? b=some u->h'.get? b=some u):Inv X sV σ H { s with heap:=h',toks:=t' }:=I.un (Un.kept k) (I.hok.kept k)
theorem Inv.laid{o:HO}{t':Nat}(I:Inv X sV σ H s)(k:∀b u,s.heap.get? b=some u->h'.get? b=some u)(hp:s.heap.objs.size<=a)(new:aU X.prog X.w (upd H a o) h' a o) :
  Inv X sV σ (upd H a o) { s with heap:=h',toks:=t' }:=I.un (Un.laid k hp (I.hok.fresh hp)) (I.hok.laid k hp new)
theorem Inv.write{x e:Addr}{o:HO}{t':Nat}(I:Inv X sV σ H s)(mu:Mut (H x))(he:e=x\/H e=some (.own x))(k:∀b u,b≠e->s.heap.get? b=some u->h'.get? b=some u)(heo:∃u,h'.get? e=some u)
  (new:aU X.prog X.w (upd H x o) h' x o):Inv X sV σ (upd H x o) { s with heap:=h',toks:=t' }:=I.un (Un.write mu he k heo) (I.hok.write mu he k heo new)
theorem Inv.lZ{Jv:List (Addr×Obj)}(I:Inv X sV σ H s)(h:∀p∈Jv,s.heap.get? p.1=some p.2/\H p.1=none/\p.1≠X.env.locals/\p.1∉X.fs/\∀v,p.2.data≠.cell v):Inv X Jv σ H s:=
 ⟨I.ok,I.os,I.bare,I.base,I.loc,I.cell,I.free,I.fS,fun p hp=>(Tp.mp hp).elim (fun z=>I.pin p (T6 _ z)) (h p),I.hok,I.len⟩
theorem tU{N:List Str}(hN:N.Nodup){i j:Nat}(a:N[i]?=some x)(b:N[j]?=some x):i=j:=by obtain⟨h1,e1⟩:=S7.mp a;obtain⟨h2,e2⟩:=S7.mp b;exact(List.getElem_inj hN).mp (e1.trans e2.symm)
theorem qq{M:Model}{A:Around}{E:Value->Shared->Prop}{Q:Unit->Shared->Prop}(I:Inv X sV σ H s)(hN:X.N.Nodup)(hi:X.N[i]?=some x)(hx:Loc X.env.scope x)(r:RelV v u)
  (h:∀s',Inv X sV (σ.set i (some v)) H s'->(∃a,Vl a s.heap s'.heap/\(a=X.env.locals\/X.env.cells.lookup x=some a))->Q () s') (hf:X.fn x=true\/X.env.scope.names.lookup x=some .local:=by trivial):wpAny M A (storeName X.env x u) Q E s:=by
 obtain⟨m,hn,hl⟩:=id I.loc;have hcls:(X.env.scope.kind == .class||(X.env.scope.kind == .module&&X.env.locals != X.env.globals))=false:=by rw[I.ok.kind];rfl
 have hiσ:i<σ.length:=by rw[I.len];exact(S7.mp hi).1
 have cne:=I.cne;have tracked:∀{a:Addr} {h':Heap},(∃o,s.heap.get? a=some o/\H a=none)->Vl a s.heap h'->HOk X.prog X.w H h':=fun {a h'} ha hs b ob e=>by
  obtain⟨_,_,hfree⟩:=ha;refine(I.hok b ob e).stay (fun c w' hc q=>(hs.2 c ?_).trans q) (fun _ q=>q) (fun _ _ _ q=>q) fun _ _ q=>q;rintro rfl;rcases hc with rfl | hc
  ·rw[hfree]at e;cases e
  ·rw[hfree]at hc;cases hc
 rcases hx with hk | hk
 ·refine wpAny_storeName_local hk hn (fun h' hn' hs=>?_) hcls;obtain⟨oL,_,_,hoL,_⟩:=id hn;refine h _ ⟨I.ok,I.os,I.bare,⟨fun b o e n hb hx=>?_,fun b o e n hb hx=>?_,I.base.free,fun b o e hx=>?_,I.base.tups,I.base.p6,I.base.lH⟩,⟨_,hn',fun j y v' e1 e2 e3=>?_⟩,fun y c e=>?_,I.free,I.fS,fun p hp=>?_,tracked ⟨oL,hoL,I.free⟩ hs,by simpa using I.len⟩ ⟨_,hs,.inl rfl⟩
  ·exact(hs.2 b (Ti (Tj (S9 e) I.ok.above))).trans (I.base.keep b o e n hb hx)
  ·obtain⟨sl,e1⟩:=I.base.slot b o e n hb hx;exact⟨sl,(hs.2 b (Ti (Tj (S9 e) I.ok.above))).trans e1⟩
  ·obtain⟨o',e1⟩:=I.base.there b o e hx;exact⟨o',(hs.2 b (Ti (Tj (S9 e) I.ok.above))).trans e1⟩
  ·by_cases hj:j=i
   ·subst hj;rw[hi]at e1;cases e1;rw[TN hiσ]at e2;cases e2;exact⟨u,r,.inl ⟨hk,by simp⟩⟩
   ·rw[HT (Ne.symm hj)]at e2;obtain⟨u',r',q⟩:=hl j y v' e1 e2 e3;refine⟨u',r',?_⟩;rcases q with⟨k,e⟩ | ⟨k,c,e,z⟩
    ·refine .inl ⟨k,?_⟩;have:y≠x:=fun e=>hj (tU hN e1 (e▸hi));simp[this,e]
    ·exact .inr ⟨k,c,e,z.sameBut hs (cne y c e)⟩
  ·obtain⟨w',z⟩:=I.cell y c e;exact⟨w',z.sameBut hs (cne y c e)⟩
  ·obtain⟨e,n,ne,nf,d⟩:=I.pin p hp;exact⟨(hs.2 p.1 ne).trans e,n,ne,nf,d⟩
 ·have hfn:X.fn x=true:=by
   rcases hf with z | z
   ·exact z
   ·rw[z]at hk;cases hk
  obtain⟨c,hc⟩:=I.ok.has x (.inl hk);obtain⟨w',z⟩:=I.cell x c hc;refine wpAny_storeName_cell I.ok.kind hk hc z (fun h' hc' hs=>?_);obtain⟨oc,hoc,RC⟩:=id z;refine h { s with heap:=h' } ⟨I.ok,I.os,I.bare,⟨fun b o e n hb hx=>?_,fun b o e n hb hx=>?_,I.base.free,fun b o e hx=>?_,I.base.tups,I.base.p6,I.base.lH⟩,⟨m,hn.sameBut hs (Ne.symm (cne x c hc)),fun j y v' e1 e2 e3=>?_⟩,fun y c' e=>?_,I.free,I.fS,fun p hp=>?_,tracked ⟨oc,hoc,I.fS x c hc⟩ hs,by simpa using I.len⟩ ⟨c,hs,.inr hc⟩
  ·exact(hs.2 b (Ti (Tj (S9 e) (I.ok.cab x c hfn hc)))).trans (I.base.keep b o e n hb hx)
  ·obtain⟨sl,e1⟩:=I.base.slot b o e n hb hx;exact⟨sl,(hs.2 b (Ti (Tj (S9 e) (I.ok.cab x c hfn hc)))).trans e1⟩
  ·obtain⟨o',e1⟩:=I.base.there b o e hx;exact⟨o',(hs.2 b (Ti (Tj (S9 e) (I.ok.cab x c hfn hc)))).trans e1⟩
  ·by_cases hj:j=i
   ·subst hj;rw[hi]at e1;cases e1;rw[TN hiσ]at e2;cases e2;exact⟨u,r,.inr ⟨.inl hk,c,hc,hc'⟩⟩
   ·rw[HT (Ne.symm hj)]at e2;obtain⟨u',r',q⟩:=hl j y v' e1 e2 e3;refine⟨u',r',?_⟩;rcases q with q | ⟨k,c',e,z'⟩
    ·exact .inl q
    ·refine .inr ⟨k,c',e,z'.sameBut hs ?_⟩;rintro rfl;exact hj (tU hN e1 (I.ok.inj _ _ _ e hc▸hi))
  ·by_cases hcc:c'=c
   ·subst hcc;exact⟨_,hc'⟩
   ·obtain⟨w2,z2⟩:=I.cell y c' e;exact⟨w2,z2.sameBut hs hcc⟩
  ·obtain⟨e,n,ne,nf,d⟩:=I.pin p hp;refine⟨(hs.2 p.1 ?_).trans e,n,ne,nf,d⟩;intro q;rw[q,hoc]at e;have q':oc=p.2:=Option.some.inj e;exact d w' (by rw[<- q'];exact RC)
theorem tW{M:Model}{A:Around}{E:Value->Shared->Prop}{Q:Unit->Shared->Prop}(I:Inv X sV σ H s)(hN:X.N.Nodup)(hi:X.N[i]?=some x)(hx:Loc X.env.scope x)(r:RelV v u)
  (h:∀s',Inv X sV (σ.set i (some v)) H s'->Q () s') (hf:X.fn x=true\/X.env.scope.names.lookup x=some .local:=by trivial):wpAny M A (storeName X.env x u) Q E s:=
 qq I hN hi hx r (fun s' I' _=>h s' I') hf
theorem Inv.OD{s':Shared}(I:Inv X sV σ H s)(ho:s'.os=s.os)(u:Un (frs X.stack) ch H H' s.heap s'.heap)(hok:HOk X.prog X.w H' s'.heap)(hg:AllBare s'.gens)
  (hch:∀b∈ch,(b∈X.ex\/X.s₀.heap.objs.size<=b)/\b≠X.env.locals/\(∀x c,X.env.cells.lookup x=some c->c≠b)/\∀p∈X.pn++sV,p.1≠b):Inv X sV σ H' s':=by
 obtain⟨h',g',d',t',o'⟩:=s';have e:o'=s.os:=ho;subst e;exact I.call (g':=g') (t':=t') (d':=d') u hok hg hch
end
end
noncomputable abbrev XK:=Value->Option Addr->Hp->Prop
noncomputable abbrev St:=List (Option V)
noncomputable abbrev VK:=V->Hp->Prop
noncomputable abbrev TE:=St->Hp->VK->Prop
noncomputable abbrev TT:=St->Hp->(Bool->Hp->Prop)->Prop
noncomputable abbrev TA:=St->Hp->(List V->Hp->Prop)->Prop
structure Ends where
 nx:St->Hp->Prop
 rt:VK
 bk:St->Hp->Prop:=fun _ _=>False
 ct:St->Hp->Prop:=fun _ _=>False
noncomputable abbrev TS:=Ends->St->Hp->Prop
def EP(X:Cx)(sV:List (Addr×Obj))(σ:St)(Q:VK)(u:Value)(s':Shared):Prop:=∃v H',Inv X sV σ H' s'/\RelV v u/\Q v H'
def TP(X:Cx)(sV:List (Addr×Obj))(σ:St)(Q:Bool->Hp->Prop)(b:Bool)(s':Shared):Prop:=∃H',Inv X sV σ H' s'/\Q b H'
def AP(X:Cx)(sV:List (Addr×Obj))(σ:St)(Q:List V->Hp->Prop)(us:List Value)(s':Shared):Prop:=∃vs H',Inv X sV σ H' s'/\Vals vs us/\Q vs H'
def SP(X:Cx)(sV:List (Addr×Obj))(D:Ends)(f:Flow)(s':Shared):Prop:=
 match f with
 |.next=>∃σ' H',Inv X sV σ' H' s'/\D.nx σ' H'
 |.brk=>∃σ' H',Inv X sV σ' H' s'/\D.bk σ' H'
 |.cont=>∃σ' H',Inv X sV σ' H' s'/\D.ct σ' H'
 |.ret u=>∃v σ' H',Inv X sV σ' H' s'/\RelV v u/\D.rt v H'
def PE(X:Cx)(e:Expr)(t:TE):Prop:=
 ∀(sV:List (Addr×Obj)) (s:Shared) (σ:St) (H:Hp) (Q:VK),Inv X sV σ H s->t σ H Q->wpAny (model X.prog X.w) X.A (eval e X.env) (EP X sV σ Q) X.xe s
def PT(X:Cx)(e:Expr)(t:TT):Prop:=
 ∀(sV:List (Addr×Obj)) (s:Shared) (σ:St) (H:Hp) (Q:Bool->Hp->Prop),Inv X sV σ H s->t σ H Q->wpAny (model X.prog X.w) X.A (isTrue e X.env (eval e X.env)) (TP X sV σ Q) X.xe s
def PW(X:Cx)(e:Expr)(t:TT):Prop:=
 ∀(whole:Sem Value) (sV:List (Addr×Obj)) (s:Shared) (σ:St) (H:Hp) (Q:Bool->Hp->Prop),Inv X sV σ H s->t σ H Q->wpAny (model X.prog X.w) X.A (isTrue e X.env whole) (TP X sV σ Q) X.xe s
theorem PW.pt{X:Cx}{e:Expr}{t:TT}(h:PW X e t):PT X e t:=h _
def PA(X:Cx)(es:List Expr)(t:TA):Prop:=
 ∀(pos:Pos) (sV:List (Addr×Obj)) (s:Shared) (σ:St) (H:Hp) (Q:List V->Hp->Prop),Inv X sV σ H s->t σ H Q->wpAny (model X.prog X.w) X.A (spliced (backTo pos (starEach es X.env))) (AP X sV σ Q) X.xe s
def PS(X:Cx)(st:Stmt)(t:TS):Prop:=
 ∀(sV:List (Addr×Obj)) (s:Shared) (σ:St) (H:Hp) (D:Ends),Inv X sV σ H s->t D σ H->wpAny (model X.prog X.w) X.A (exec st X.env) (SP X sV D) X.xe s
def PSs(X:Cx)(st:List Stmt)(t:TS):Prop:=
 ∀(sV:List (Addr×Obj)) (s:Shared) (σ:St) (H:Hp) (D:Ends),Inv X sV σ H s->t D σ H->wpAny (model X.prog X.w) X.A (execs st X.env) (SP X sV D) X.xe s
theorem thn{α:Type}{t:Sem α}{Q Q':α->Shared->Prop}{M:Model}{A:Around}{E:Value->Shared->Prop}{s:Shared}(h:wpAny M A t Q E s)(hQ:∀a s,Q a s->Q' a s):wpAny M A t Q' E s:=wpAny_mono h hQ fun _ _ x=>x
section
variable{X:Cx}
section
variable{Q:Value->Shared->Prop}{sV:List (Addr×Obj)}{u:Value}{x:Str}{s:Shared}{t:TE}{σ:St}{H:Hp}{v:V}
def mz(i:Nat):TE:=fun σ H Q=>∃v,σ[i]?=some (some v)/\Q v H
def tC(v:V):TE:=fun _ H Q=>Q v H
theorem eZ{i:Nat}{pos:Pos}(hN:X.N[i]?=some x)(hv:Vis X.env.scope x)(hd:(x == ("__debug__" : Str))=false:=by decide)(J2:(x == ("__classdict__" : Str))=false:=by decide):PE X (.Name x pos) (mz i):=by
 intro sV s σ H Q I h;obtain⟨v,e,h⟩:=h;obtain⟨m,hn,hl⟩:=I.loc;obtain⟨u,r,l⟩:=hl i x v hN e hv;have Fp:EP X sV σ Q u s:=⟨v,H,I,r,h⟩
 rcases l with⟨hk,hm⟩ | ⟨hk,c,hc,hcell⟩
 ·exact wpAny_Name (wpAny_loadName_local I.ok.kind hk hn hm Fp) hd
 ·rcases hk with hk | hk
  ·exact wpAny_Name (wpAny_loadName_cell I.ok.kind hk hc hcell Fp) hd
  ·exact wpAny_Name (wpAny_loadName_free I.ok.kind hk hc hcell Fp J2) hd
theorem La{i j pos}:PE X (.Constant (.int i) j pos) (tC (.int i)):=fun _ _ _ H _ I h=>wpAny_Constant_int ⟨.int i,H,I.tok _,⟨_,rfl⟩,h⟩
theorem OE{b j pos}:PE X (.Constant (.bool b) j pos) (tC (.bl b)):=fun _ _ _ H _ I h=>Constant_bool ⟨.bl b,H,I,rfl,h⟩
theorem Lb{j pos}:PE X (.Constant .none j pos) (tC .non):=fun _ _ _ H _ I h=>Constant_none ⟨.non,H,I,rfl,h⟩
def Gl(X:Cx)(x:Str):Prop:=X.env.kindOf x=some .globalImplicit
theorem yT{E:Value->Shared->Prop}{pos:Pos}(I:Inv X sV σ H s)(hg:Gl X x)(hm:X.mg x=some u)(h:Q u s)
  (hd:(x == ("__debug__" : Str))=false:=by decide):wpAny (model X.prog X.w) X.A (eval (.Name x pos) X.env) Q E s:=
 Calls.Name_function_global I.ok.kind hg (Calls.loadGlobal_global (by rw[I.ok.glob];exact I.mod.glob.keeps I.bk) hm h) hd
theorem cW{E:Value->Shared->Prop}{pos:Pos}(I:Inv X sV σ H s)(hg:Gl X x)(hm:X.mg x=none)(hv:bootBuiltins x=some u)(h:Q u s)
  (hn:x ≠ "__name__" := by decide) (hd:(x == ("__debug__" : Str))=false:=by decide):wpAny (model X.prog X.w) X.A (eval (.Name x pos) X.env) Q E s:=by
 obtain⟨mb,h1,h2⟩:=I.mod.blt;exact Calls.Name_function_global I.ok.kind hg (Calls.loadGlobal_builtin (by rw[I.ok.glob];exact I.mod.glob.keeps I.bk) hm (by rw[I.ok.blt];exact h1.keeps I.bk) ((h2 x hn).trans hv) h) hd
theorem yU{pos:Pos}(hg:Gl X x)(hm:X.mg x=some u)(r:RelV v u)(hd:(x == ("__debug__" : Str))=false:=by decide):PE X (.Name x pos) (tC v):=
 fun _ _ _ H _ I h=>yT I hg hm ⟨v,H,I,r,h⟩ hd
theorem GK{pos:Pos}(hg:Gl X x)(hm:X.mg x=none)(hv:bootBuiltins x=some u)(r:RelV v u)(hn:x ≠ "__name__" := by decide)(hd:(x == ("__debug__" : Str))=false:=by decide):PE X (.Name x pos) (tC v):=
 fun _ _ _ H _ I h=>cW I hg hm hv ⟨v,H,I,r,h⟩ hn hd
variable{a b:Expr}{ta tb:TE}{pos:Pos}
def PC(X:Cx)(op:CmpOp)(a b:Expr)(t:TE):Prop:=
 ∀(sV:List (Addr×Obj)) (s:Shared) (σ:St) (H:Hp) (Q:VK),Inv X sV σ H s->t σ H Q ->
  wpAny (model X.prog X.w) X.A (eval a X.env) (fun v s₁=>wpAny (model X.prog X.w) X.A (eval b X.env) (fun u s₂=>wpAny (model X.prog X.w) X.A (compareOp op v u) (EP X sV σ Q) X.xe s₂) X.xe s₁) X.xe s
def tB(t:TE):TT:=fun σ H Q=>t σ H fun x H1=>∃c,x=.bl c/\Q c H1
theorem B5{op:CmpOp}(h:PC X op a b t)(h1:behindInMarks op b=false:=by first | exact OG _ (by decide) (by decide) | rfl):PT X (.Compare a [op] [b] pos) (tB t):=by intro sV s σ H Q I hw;refine wpAny_isTrue_Compare1 (thn (h sV s σ H _ I hw) fun v s1 h1=>thn h1 fun u s2 h2=>thn h2 fun c s3 ⟨x,H1,I1,r1,q1⟩=>?_) h1;obtain⟨d,rfl,q⟩:=q1;cases r1;exact wpAny_truthy_bool ⟨H1,I1,q⟩
theorem Lc{e:Expr}(h:PE X e t)(he:∀whole,isTrue e X.env whole=(do let v <- whole;standAt e.pos;holding [v] (truthy v)):=by intro _;rfl):PT X e (tB t):=by intro sV s σ H Q I hw;refine isTrue_plain (thn (h sV s σ H _ I hw) fun v s1 ⟨x,H1,I1,r1,q1⟩=>?_) (he _);obtain⟨d,rfl,q⟩:=q1;cases r1;exact wpAny_truthy_bool ⟨H1,I1,q⟩
variable{tA tB':TT}{Bu:List Expr}
def lJ(t u:TT):TT:=fun σ H Q=>t σ H fun c H1=>if c=true then u σ H1 Q else Q false H1
def tOr(t u:TT):TT:=fun σ H Q=>t σ H fun c H1=>if c=true then Q true H1 else u σ H1 Q
def ez(t:TT):TT:=fun σ H Q=>t σ H fun c H1=>Q (!c) H1
theorem pw_and1(ha:PT X a tA):PW X (.BoolOp .And [a] pos) tA:=by
 intro wh sV s σ H Q I h;refine isTrue_and (thn (ha sV s σ H Q I h) fun c s1 e=>?_);cases c with
 |true=>exact isTrue_and_nil e
 |false=>exact e
theorem pw_or1(ha:PT X a tA):PW X (.BoolOp .Or [a] pos) tA:=by
 intro wh sV s σ H Q I h;refine isTrue_or (thn (ha sV s σ H Q I h) fun c s1 e=>?_);cases c with
 |false=>exact isTrue_or_nil e
 |true=>exact e
theorem pw_and(ha:PT X a tA)(hb:PW X (.BoolOp .And (b::Bu) pos) tB'):PW X (.BoolOp .And (a::b::Bu) pos) (lJ tA tB'):=by
 intro wh sV s σ H Q I h;refine isTrue_and (thn (ha sV s σ H _ I h) fun c s1 ⟨H1,I1,q1⟩=>?_);cases c with
 |true=>exact hb wh sV s1 σ H1 Q I1 q1
 |false=>exact⟨H1,I1,q1⟩
theorem pw_or(ha:PT X a tA)(hb:PW X (.BoolOp .Or (b::Bu) pos) tB'):PW X (.BoolOp .Or (a::b::Bu) pos) (tOr tA tB'):=by
 intro wh sV s σ H Q I h;refine isTrue_or (thn (ha sV s σ H _ I h) fun c s1 ⟨H1,I1,q1⟩=>?_);cases c with
 |true=>exact⟨H1,I1,q1⟩
 |false=>exact hb wh sV s1 σ H1 Q I1 q1
theorem Ld(ha:PT X a tA):PT X (.UnaryOp .Not a pos) (ez tA):=by intro sV s σ H Q I h;exact isTrue_not (ha sV s σ H (fun c H1=>Q (!c) H1) I h)
def Jw(ta tb:TE):TE:=fun σ H Q=>ta σ H fun x H1=>∃c,x=.bl c/\if c=true then tb σ H1 Q else Q (.bl false) H1
def Jx(ta:TE):TE:=fun σ H Q=>ta σ H fun x H1=>∃c,x=.bl c/\Q (.bl (!c)) H1
theorem Le{op}(h:PE X a t):PE X (.BoolOp op [a] pos) t:=fun sV s σ H Q I hw=>BoolOp_one (h sV s σ H Q I hw)
theorem Lf(ha:PE X a ta)(hb:PE X (.BoolOp .And (b::Bu) pos) tb):PE X (.BoolOp .And (a::b::Bu) pos) (Jw ta tb):=by
 intro sV s σ H Q I h;refine BoolOp_and (thn (ha sV s σ H _ I h) fun v s1 ⟨x,H1,I1,r1,q1⟩=>?_);obtain⟨c,rfl,q1⟩:=q1;cases r1;refine wpAny_truthy_bool ?_;cases c with
 |true=>exact hb sV s1 σ H1 Q I1 q1
 |false=>exact⟨.bl false,H1,I1,rfl,q1⟩
theorem Lg(ha:PE X a ta):PE X (.UnaryOp .Not a pos) (Jx ta):=by intro sV s σ H Q I h;refine UnaryOp_ (thn (ha sV s σ H _ I h) fun v s1 ⟨x,H1,I1,r1,q1⟩=>?_);obtain⟨c,rfl,q1⟩:=q1;cases r1;exact not_of (wpAny_truthy_bool ⟨.bl (!c),H1,I1,rfl,q1⟩)
def tIf(t:TT)(ta tb:TE):TE:=fun σ H Q=>t σ H fun c H1=>if c=true then ta σ H1 Q else tb σ H1 Q
theorem B6{c:Expr}(hc:PT X c tA)(ha:PE X a ta)(hb:PE X b tb):PE X (.IfExp c a b pos) (tIf tA ta tb):=by
 intro sV s σ H Q I h;refine wpAny_IfExp (thn (hc sV s σ H _ I h) fun d s1 ⟨H1,I1,q1⟩=>?_);cases d with
 |true=>exact ha sV s1 σ H1 Q I1 q1
 |false=>exact hb sV s1 σ H1 Q I1 q1
end
end
def SqL(K:Dp)(H:Hp)(a:Addr)(xs:List V):Prop:=
 Rd H a (.lst xs) \/
  ∃(o:Obj) (its:Array Value) (n:Nat),K.lookup a=some o/\o.cls=.type "list" /\ o.dict=none/\o.data=.seq its n/\its.size<=sizeLine/\Vals xs its.toList
def SqT(K:Dp)(H:Hp)(a:Addr)(xs:List V):Prop:=
 Rd H a (.tup xs) \/
  ∃(o:Obj) (its:Array Value) (n:Nat),K.lookup a=some o/\o.cls=.type "tuple" /\ o.data=.seq its n/\its.size<=sizeLine/\Vals xs its.toList
noncomputable def RD:Value->Option V
 |.none=>some .non
 |.bool b=>some (.bl b)
 |.int i _=>some (.int i)
 |.str x _=>some (.str x)
 |.bytes b _=>some (.byt b)
 |.float b _=>some (.flt b)
 |.ref a=>some (.ref a)
 |.type n=>some (.ty n)
 |_=>none
theorem RelV.abs{x:V}{u:Value}(r:RelV x u):RD u=some x:=by
 cases x with
 |non=>cases r;rfl
 |bl _=>cases r;rfl
 |int _=>obtain⟨t,rfl⟩:=r;rfl
 |str _=>obtain⟨t,rfl⟩:=r;rfl
 |byt _=>obtain⟨t,rfl⟩:=r;rfl
 |flt _=>obtain⟨t,rfl⟩:=r;rfl
 |ref _=>cases r;rfl
 |ty _=>cases r;rfl
theorem RelV.inj{x y:V}{u:Value}(r:RelV x u)(q:RelV y u):x=y:=Option.some.inj (r.abs.symm.trans q.abs)
theorem Vals.inj:∀{xs ys:List V} {us:List Value},Vals xs us->Vals ys us->xs=ys
 |_,_,_,.nil,.nil=>rfl
 |_,_,_,.cons r t,.cons r' t'=>by rw[r.inj r',Vals.inj t t']
section
variable{X:Cx}{sV:List (Addr×Obj)}{σ:St}{H:Hp}{s:Shared}{a:Addr}{xs ys:List V}
theorem SqT.of{K:Dp}(h:H a=some (.tup xs)):SqT K H a xs:=.inl (.inl h)
theorem Inv.list(I:Inv X sV σ H s)(h:SqL X.K H a xs):∃its:List Value,Vals xs its/\PlainL s.heap a its.toArray/\xs.length<=sizeLine:=by
 rcases h with h | ⟨o,its,n,hk,hc,hd,hs,hz,r⟩
 ·obtain⟨z,its,n,r,e⟩:=h.ok I.hok;exact⟨its,r,⟨_,n,e,rfl,rfl,rfl⟩,z⟩
 ·refine⟨its.toList,r,⟨o,n,I.kIn a o hk,hc,hd,by simpa using hs⟩,?_⟩;have e:=r.length;simp only[Te]at e
  lia
theorem Inv.tuple(I:Inv X sV σ H s)(h:SqT X.K H a xs):∃its:List Value,Vals xs its/\IsTup s.heap a its.toArray/\xs.length<=sizeLine:=by
 rcases h with h | ⟨o,its,n,hk,hc,hs,hz,r⟩
 ·obtain⟨z,its,r,p⟩:=h.ok I.hok;exact⟨its,r,p,z⟩
 ·refine⟨its.toList,r,⟨o,I.kIn a o hk,hc,n,by simpa using hs⟩,?_⟩;have e:=r.length;simp only[Te]at e
  lia
theorem Inv.fT(I:Inv X sV σ H s)(h:SqL X.K H a xs)(h':SqL X.K H a ys):xs=ys:=by
 obtain⟨its,r,⟨o,n,e,_,_,d⟩,_⟩:=I.list h;obtain⟨its',r',⟨o',n',e',_,_,d'⟩,_⟩:=I.list h';rw[e]at e';cases e';rw[d]at d';injection d' with d1 _
 have:its=its':=by simpa using congrArg Array.toList d1
 subst this;exact r.inj r'
theorem Inv.AF(I:Inv X sV σ H s)(h:SqT X.K H a xs)(h':SqT X.K H a ys):xs=ys:=by
 obtain⟨its,r,⟨o,e,_,n,d⟩,_⟩:=I.tuple h;obtain⟨its',r',⟨o',e',_,n',d'⟩,_⟩:=I.tuple h';rw[e]at e';cases e';rw[d]at d';injection d' with d1 _
 have:its=its':=by simpa using congrArg Array.toList d1
 subst this;exact r.inj r'
end
noncomputable abbrev Cx.mC(X:Cx)(E:Value->Shared->Prop):Cx:={ X with xe:=E }
noncomputable abbrev Cx.nox(X:Cx):Cx:=X.mC fun _ _=>False
theorem Cx.Ok.mC{X:Cx}(ok:X.Ok)(E:Value->Shared->Prop):(X.mC E).Ok:=
 ⟨ok.mod,ok.kind,ok.glob,ok.blt,ok.above,ok.inj,ok.has,ok.cab,ok.hd,ok.frames,ok.stk,ok.exf,ok.bs,ok.bsz,ok.B4,ok.GJ,ok.lI,ok.frf⟩
theorem Cx.Ok.e_{X:Cx}{E:Value->Shared->Prop}(ok:(X.mC E).Ok):X.Ok:=
 ⟨ok.mod,ok.kind,ok.glob,ok.blt,ok.above,ok.inj,ok.has,ok.cab,ok.hd,ok.frames,ok.stk,ok.exf,ok.bs,ok.bsz,ok.B4,ok.GJ,ok.lI,ok.frf⟩
section
variable{X:Cx}{sV:List (Addr×Obj)}{σ:St}{H:Hp}{s:Shared}{E:Value->Shared->Prop}
theorem Inv.mC(I:Inv X sV σ H s)(E:Value->Shared->Prop):Inv (X.mC E) sV σ H s:=⟨I.ok.mC E,I.os,I.bare,I.base,I.loc,I.cell,I.free,I.fS,I.pin,I.hok,I.len⟩
theorem Inv.e_(I:Inv (X.mC E) sV σ H s):Inv X sV σ H s:=⟨I.ok.e_,I.os,I.bare,I.base,I.loc,I.cell,I.free,I.fS,I.pin,I.hok,I.len⟩
theorem SP.e_{D:Ends}{f:Flow}{s':Shared}(h:SP (X.mC E) sV D f s'):SP X sV D f s':=by
 cases f with
 |next=>obtain⟨σ',H',I,q⟩:=h;exact⟨σ',H',I.e_,q⟩
 |brk=>obtain⟨σ',H',I,q⟩:=h;exact⟨σ',H',I.e_,q⟩
 |cont=>obtain⟨σ',H',I,q⟩:=h;exact⟨σ',H',I.e_,q⟩
 |ret u=>obtain⟨v,σ',H',I,r,q⟩:=h;exact⟨v,σ',H',I.e_,r,q⟩
theorem PE.nox{e:Expr}{t:TE}(h:PE X.nox e t):PE X e t:=fun sV s σ H Q I hw=>wpAny_mono (h sV s σ H Q (I.mC _) hw) (fun _ _ ⟨v,H',I',r,q⟩=>⟨v,H',I'.e_,r,q⟩) fun _ _ z=>T8 z
theorem PSs.nox{st:List Stmt}{t:TS}(h:PSs X.nox st t):PSs X st t:=fun sV s σ H D I hw=>wpAny_mono (h sV s σ H D (I.mC _) hw) (fun _ _ q=>q.e_) fun _ _ z=>T8 z
end
section
variable{X:Cx}{st:Stmt}{Bu:List Stmt}{t u:TS}{e:Expr}{te:TE}{pos:Pos}
def B7:TS:=fun D σ H=>D.nx σ H
def AG(t u:TS):TS:=fun D σ H=>t { D with nx:=u D } σ H
theorem yV:PSs X [] B7:=fun _ _ σ H _ I h=>wpAny_execs_nil ⟨σ,H,I,h⟩
theorem jo(h1:PS X st t)(h2:PSs X Bu u):PSs X (st::Bu) (AG t u):=by
 intro sV s σ H D I h;refine wpAny_execs_cons (thn (h1 sV s σ H { D with nx:=u D } I h) fun f s1 q=>?_);cases f with
 |next=>obtain⟨σ',H',I',q⟩:=q;exact h2 sV s1 σ' H' D I' q
 |ret v=>exact q
 |brk=>exact q
 |cont=>exact q
theorem yW(h1:PS X st t):PSs X [st] t:=by
 intro sV s σ H D I h;refine wpAny_execs_cons (thn (h1 sV s σ H D I h) fun f s1 q=>?_);cases f with
 |next=>exact wpAny_execs_nil q
 |ret v=>exact q
 |brk=>exact q
 |cont=>exact q
theorem Inv.quiet{sV:List (Addr×Obj)}{σ:St}{H:Hp}{s:Shared}(I:Inv X sV σ H s):interactive X.env=false:=by simp[interactive,I.ok.kind]
def tX(te:TE):TS:=fun D σ H=>te σ H fun _ H1=>D.nx σ H1
theorem l6(he:PE X e te)(hs:swapsWith e none pos.line X.env=pure false:=by rfl):PS X (.Expr e pos) (tX te):=by intro sV s σ H D I h;exact wpAny_Expr_any (thn (he sV s σ H _ I h) fun v s1 ⟨x,H1,I1,r1,q1⟩=>⟨σ,H1,I1,q1⟩) I.quiet hs
def OH(te:TE):TS:=fun D σ H=>te σ H D.rt
theorem Lh(he:PE X e te):PS X (.Return (some e) pos) (OH te):=by intro sV s σ H D I h;exact wpAny_Return_some (thn (he sV s σ H _ I h) fun v s1 ⟨x,H1,I1,r1,q1⟩=>⟨x,σ,H1,I1,r1,q1⟩)
def Li(c:TT)(t u:TS):TS:=fun D σ H=>c σ H fun b H1=>if b=true then t D σ H1 else u D σ H1
theorem Jy{c:Expr}{a b:List Stmt}{tc:TT}(hc:PT X c tc)(ha:PSs X a t)(hb:PSs X b u):PS X (.If c a b pos) (Li tc t u):=by
 intro sV s σ H D I h;refine wpAny_If (thn (hc sV s σ H _ I h) fun d s1 ⟨H1,I1,q1⟩=>?_);cases d with
 |true=>exact ha sV s1 σ H1 D I1 q1
 |false=>exact hb sV s1 σ H1 D I1 q1
def Lj:TS:=fun _ _ _=>False
theorem B8:PS X st Lj:=fun _ _ _ _ _ _ h=>h.elim
end
noncomputable abbrev TG:=V->St->Hp->(St->Hp->Prop)->Prop
noncomputable abbrev TGs:=List V->St->Hp->(St->Hp->Prop)->Prop
def PG(X:Cx)(target:Expr)(t:TG):Prop:=
 ∀(sV:List (Addr×Obj)) (s:Shared) (σ:St) (H:Hp) (v:V) (u:Value) (Q:St->Hp->Prop),Inv X sV σ H s->RelV v u->t v σ H Q ->
  wpAny (model X.prog X.w) X.A (assign target X.env u) (fun _ s'=>∃σ' H',Inv X sV σ' H' s'/\Q σ' H') X.xe s
def PGs(X:Cx)(ts:List Expr)(t:TGs):Prop:=
 ∀(sV:List (Addr×Obj)) (s:Shared) (σ:St) (H:Hp) (vs:List V) (us:List Value) (Q:St->Hp->Prop),Inv X sV σ H s->Vals vs us->t vs σ H Q ->
  wpAny (model X.prog X.w) X.A (assignInOrder ((assignEach ts X.env).map (·.2)) us) (fun _ s'=>∃σ' H',Inv X sV σ' H' s'/\Q σ' H') X.xe s
noncomputable abbrev Lk:=V->V->V->Hp->(Hp->Prop)->Prop
def OI(X:Cx)(t:Lk):Prop:=
 ∀(sV:List (Addr×Obj)) (s:Shared) (σ:St) (H:Hp) (o i v:V) (ov iv u:Value) (Q:Hp->Prop),Inv X sV σ H s->RelV o ov->RelV i iv->RelV v u->t o i v H Q ->
  wpAny (model X.prog X.w) X.A (setItem ov iv u) (fun _ s'=>∃H',Inv X sV σ H' s'/\Q H') X.xe s
section
variable{X:Cx}{pos:Pos}
section
variable{es:List Expr}{e:Expr}{i:Nat}{x:Str}{te:TE}
def jq(i:Nat):TG:=fun v σ H Q=>Q (σ.set i (some v)) H
theorem rW(hN:X.N.Nodup)(hi:X.N[i]?=some x)(hx:Loc X.env.scope x)(hf:X.fn x=true\/X.env.scope.names.lookup x=some .local:=by trivial):PG X (.Name x pos) (jq i):=by intro sV s σ H v u Q I r h;exact wpAny_assign_Name (tW I hN hi hx r (fun s' I'=>⟨_,H,I',h⟩) hf)
def OJ:TGs:=fun vs σ H Q=>vs=[]/\Q σ H
def Jz(t:TG)(u:TGs):TGs:=fun vs σ H Q=>∃v r,vs=v::r/\t v σ H fun σ' H'=>u r σ' H' Q
theorem GL:PGs X [] OJ:=by intro sV s σ H vs us Q I r h;obtain⟨e,h⟩:=h;subst e;cases r;exact assignInOrder_nil ⟨σ,H,I,h⟩
theorem B9{t:TG}{u:TGs}(h1:PG X e t)(h2:PGs X es u)
  (hs:(assignEach (e::es) X.env).map (·.2)=assign e X.env::(assignEach es X.env).map (·.2):=by rfl):PGs X (e::es) (Jz t u):=by
 intro sV s σ H vs us Q I r h;obtain⟨v,vr,e1,h⟩:=h;subst e1;cases r with
 |cons r rr=>rw[hs];refine assignInOrder_cons (thn (h1 sV s σ H _ _ _ I r h) fun _ s1 ⟨σ1,H1,I1,q1⟩=>?_);exact h2 sV s1 σ1 H1 _ _ Q I1 rr q1
def OL(K:Dp)(n:Nat)(t:TGs):TG:=fun v σ H Q=>∃a xs,v=.ref a/\SqT K H a xs/\xs.length=n/\t xs σ H Q
theorem B_{k:Nat}{t:TGs}{n:Nat}(hc:X.calm=true)(h:PGs X es t)
  (hn:(assignEach es X.env).length=n:=by rfl) (hst:(assignEach es X.env).findIdx? (·.1)=none:=by rfl):PG X (.Tuple es k pos) (OL X.K n t):=by
 intro sV s σ H v u Q I r hw;obtain⟨a,xs,e1,hq,hl,hw⟩:=hw;subst e1;cases r;obtain⟨its,rv,ht,hz⟩:=I.tuple hq;refine assign_Tuple_tuple (I.ok.hd hc) ht (by simp[hn,<- hl,rv.length]) hst fun h' hx=>?_;have I1:Inv X sV σ H { s with heap:=h' }:=I.kept (t':=s.toks) fun b o e=>hx b o (Ti (S9 e)) e;exact h sV _ σ H xs _ Q I1 (by simpa using rv) hw
def gQ(to ti:TE)(t:Lk):TG:=fun v σ H Q=>to σ H fun o H1=>ti σ H1 fun i H2=>t o i v H2 fun H3=>Q σ H3
theorem Ll{o i:Expr}{to ti:TE}{t:Lk}(ho:PE X o to)(hi:PE X i ti)(hs:OI X t)
  (ha:∀ v,assign (.Subscript o i pos) X.env v=(do
   let ov <- holding [v] (eval o X.env)
   let iv <- holding [v,ov] (eval i X.env)
   standAt pos
   holding [v,ov,iv] (setItem ov iv v)
   release [v,ov,iv] []):=by intro _;rfl):PG X (.Subscript o i pos) (gQ to ti t):=by
 intro sV s σ H v u Q I r h;rw[ha];refine wpAny_bind (wpAny_holding (thn (ho sV s σ H _ I h) fun ov s1 ⟨x,H1,I1,r1,q1⟩=>?_));refine wpAny_bind (wpAny_holding (thn (hi sV s1 σ H1 _ I1 q1) fun iv s2 ⟨y,H2,I2,r2,q2⟩=>?_));refine wpAny_bind (wpAny_standAt (wpAny_bind (wpAny_holding (thn (hs sV s2 σ H2 x y v ov iv u _ I2 r1 r2 r q2) fun _ s3 ⟨H3,I3,q3⟩=>?_))));exact wpAny_release ⟨σ,H3,I3,q3⟩
def AH(te:TE)(g:TG):TS:=fun D σ H=>te σ H fun x H1=>g x σ H1 D.nx
theorem Lm{tg e:Expr}{g:TG}(he:PE X e te)(hg:PG X tg g)(hs:swapsWithSole [tg] e pos.line X.env=pure false:=by rfl)(hw:swappedStores [tg] e X.env=pure none:=by rfl)
  (h1:(assignEach [tg] X.env).map (·.2)=[assign tg X.env]:=by rfl):PS X (.Assign [tg] e pos) (AH te g):=by
 intro sV s σ H D I h;refine wpAny_Assign_stores (thn (he sV s σ H _ I h) fun v s1 ⟨x,H1,I1,r1,q1⟩=>?_) hs hw;rw[h1];exact thn (hg sV s1 σ H1 x v _ I1 r1 q1) fun _ s2 q=>q
theorem Ln{pos':Pos}(hN:X.N.Nodup)(hi:X.N[i]?=some x)(hx:Loc X.env.scope x)(he:PE X e te)(hs:swapsWith e (some (.Name x pos')) pos.line X.env=pure false:=by rfl)(hf:X.fn x=true\/X.env.scope.names.lookup x=some .local:=by trivial) :
  PS X (.Assign [.Name x pos'] e pos) (AH te (jq i)):=by
 intro sV s σ H D I h;refine wpAny_Assign_Name (thn (he sV s σ H _ I h) fun v s1 ⟨y,H1,I1,r1,q1⟩=>?_) hs;exact tW I1 hN hi hx r1 (fun s2 I2=>⟨_,H1,I2,q1⟩) hf
end
end
section
variable{X:Cx}{pos:Pos}
def Ca(c:TT)(tb:TS):TS:=fun D σ H=>∃W:Nat->St->Hp->Prop,(∃m,W m σ H)/\∀m σ H,W m σ H ->
 c σ H fun b H1=>if b=true then ∃N:St->Hp->Prop,(∀σ' H',N σ' H'->∃m',m'<m/\W m' σ' H')/\tb { D with nx:=N,ct:=N,bk:=D.nx } σ H1 else D.nx σ H1
theorem Cb{c:Expr}{body:List Stmt}{tc:TT}{tb:TS}(hp:PassesOwn (model X.prog X.w) X.A X.env X.xe)(hc:PT X c tc)(hb:PSs X body tb):PS X (.While c body [] pos) (Ca tc tb):=by
 intro sV s σ H D I h;obtain⟨W,⟨m0,w0⟩,turn⟩:=h;refine wpAny_While (codeAny_whileLoop (fun n s'=>∃σ' H',Inv X sV σ' H' s'/\W n σ' H') ?_ m0 ⟨σ,H,I,w0⟩);rintro n s1 ⟨σ1,H1,I1,w1⟩;refine wpAny_passesOwn hp (thn (hc sV s1 σ1 H1 _ I1 (turn n σ1 H1 w1)) fun b s2 ⟨H2,I2,q2⟩=>?_);cases b with
 |true=>
  obtain⟨N,hN,q2⟩:=q2;rw[if_pos rfl];refine wpAny_passesOwn hp (thn (hb sV s2 σ1 H2 _ I2 q2) fun f s3 q3=>?_);cases f with
  |next=>obtain⟨σ3,H3,I3,n3⟩:=q3;obtain⟨m',hm,w3⟩:=hN σ3 H3 n3;exact⟨m',hm,σ3,H3,I3,w3⟩
  |cont=>obtain⟨σ3,H3,I3,n3⟩:=q3;obtain⟨m',hm,w3⟩:=hN σ3 H3 n3;exact⟨m',hm,σ3,H3,I3,w3⟩
  |brk=>exact q3
  |ret v=>exact q3
 |false=>rw[if_neg TQ];exact wpAny_execs_nil ⟨σ1,H2,I2,q2⟩
end
section
variable{P:Program}{tg:Expr}{w:World}{s:Shared}{K:Dp}
structure It where
 go:Nat->Hp->Prop
 yld:Nat->Hp->V->Hp->Prop
 stop:Nat->Hp->Prop
def mD(X:Cx)(sV:List (Addr×Obj))(H:Hp)(b:Addr):Prop:=
 H b=none/\b≠X.env.locals/\b∉X.fs/\(b∈X.ex\/X.s₀.heap.objs.size<=b)/\(∀x c,X.env.cells.lookup x=some c->c≠b)/\∀p∈X.pn++sV,p.1≠b
theorem Inv.xm{X:Cx}{sV:List (Addr×Obj)}{σ:St}{H H':Hp}{b:Addr}(I:Inv X sV σ H s)(hb:s.heap.objs.size<=b)(hn:H' b=none):mD X sV H' b:=by
 refine⟨hn,UC (Tj I.lt hb),I.K_ hb,.inr (Tq I.sz hb),fun x c e z=>?_,fun p hp z=>?_⟩
 ·obtain⟨v,q⟩:=I.cell x c e;exact absurd (Tj q.lt (by rw[z];exact hb)) (Uz _)
 ·exact absurd (Tj (S9 (I.pin p hp).1) (by rw[z];exact hb)) (Uz _)
structure Turn(P:Program)(w:World)(K:Dp)(tg:Expr)(J:It)(fp:List Addr)(it:Addr)(tn:Nat->Heap->Prop):Prop where
 mem:it∈fp
 obj:∀i h,tn i h->∀b∈fp,∃o,h.get? b=some o/\∀v,o.data≠.cell v
 keep:∀i h h',tn i h->(∀b∈fp,∀o,h.get? b=some o->h'.get? b=some o)->tn i h'
 item:∀(X:Cx),X.prog=P->X.w=w->X.K=K->X.calm=true->∀(i:Nat) (sV:List (Addr×Obj)) (s:Shared) (σ:St) (H:Hp) (E:Value->Shared->Prop),Inv X sV σ H s->(∀b∈fp,mD X sV H b)->tn i s.heap->J.go i H ->
  wpAny (model P w) X.A (pyNext (.ref it)) (fun r s1=>∃ u,r=some u ∧
   wpAny (model P w) X.A (letOwnedTupleGo tg (.ref it) u) (fun _ s2=>∃x H',Inv X sV σ H' s2/\RelV x u/\J.yld i H x H'/\tn (i+1) s2.heap/\∀b∈fp,H' b=none) E s1) E s
 done:∀(X:Cx),X.prog=P->X.w=w->X.K=K->X.calm=true->∀(i:Nat) (sV:List (Addr×Obj)) (s:Shared) (σ:St) (H:Hp) (E:Value->Shared->Prop),Inv X sV σ H s->(∀b∈fp,mD X sV H b)->tn i s.heap->J.stop i H ->
  wpAny (model P w) X.A (pyNext (.ref it)) (fun r s1=>r=none/\Inv X sV σ H s1) E s
 self:∀(A:Around) (i:Nat) (s:Shared) (Q:Value->Shared->Prop) (E:Value->Shared->Prop),tn i s.heap->Q (.ref it) s->wpAny (model P w) A (pyIter (.ref it)) Q E s
noncomputable abbrev TI:=St->Hp->(It->Hp->Prop)->Prop
def PIE(X:Cx)(sV:List (Addr×Obj))(σ:St)(tg:Expr)(R:It->Hp->Prop)(itv:Value)(s2:Shared):Prop:=
 ∃(it:Addr) (fp:List Addr) (tn:Nat->Heap->Prop) (J:It) (H':Hp),itv=.ref it/\Inv X sV σ H' s2/\Turn X.prog X.w X.K tg J fp it tn/\tn 0 s2.heap/\(∀b∈fp,mD X sV H' b)/\R J H'
def PI(X:Cx)(tg iter:Expr)(wi:TI):Prop:=
 ∀(sV:List (Addr×Obj)) (s:Shared) (σ:St) (H:Hp) (R:It->Hp->Prop),Inv X sV σ H s->wi σ H R ->
  wpAny (model X.prog X.w) X.A (eval iter X.env) (fun v s1=>wpAny (model X.prog X.w) X.A (pyIter v) (PIE X sV σ tg R) X.xe s1) X.xe s
theorem yX{M:Model}{A:Around}{E:Value->Shared->Prop}{tg:Expr}{it:Addr}{u:Value}{o:Obj}{n:String}{vs:Array Value}{Q:Unit->Shared->Prop}(ho:s.heap.get? it=some o)(hc:o.cls=.type n)(hd:o.data=.fields vs)
  (hn:["enumerate","zip","dict_itemiterator","dict_reverseitemiterator","odict_iterator","itertools.zip_longest","itertools.pairwise"].contains n=false) (hQ:Q () s):wpAny M A (letOwnedTupleGo tg (.ref it) u) Q E s:=by
 unfold letOwnedTupleGo;cases tg<;>first
  |exact wpAny_pure hQ
  | (cases u<;>first
    |exact wpAny_pure hQ
    | (refine wpAny_bind (wpAny_load ho ?_)
       rw[hc,hd];show wpAny M A (if (["enumerate","zip","dict_itemiterator","dict_reverseitemiterator","odict_iterator","itertools.zip_longest","itertools.pairwise"].contains n&&vs[0]? == some (rawInt _))=true then _ else _) Q E s;rw[if_neg (by intro h;rw[hn,Xf]at h;cases h)];exact wpAny_pure hQ))
noncomputable def Itl(K:Dp)(a:Addr):It:=
 ⟨fun i H=>∃xs x,SqL K H a xs/\xs[i]?=some x,fun i H x H'=>H'=H/\∀xs,SqL K H a xs->xs[i]?=some x,fun i H=>∃xs,SqL K H a xs/\xs.length<=i⟩
noncomputable def Itt(K:Dp)(a:Addr):It:=
 ⟨fun i H=>∃xs x,SqT K H a xs/\xs[i]?=some x,fun i H x H'=>H'=H/\∀xs,SqT K H a xs->xs[i]?=some x,fun i H=>∃xs,SqT K H a xs/\xs.length<=i⟩
noncomputable def Itr(lo:Int)(n:Nat):It:=⟨fun i _=>i<n,fun i H x H'=>H'=H/\x=.int (lo+i),fun i _=>n<=i⟩
theorem AI(a it:Addr):Turn P w K tg (Itl K a) [it] it (fun i h=>h.IsListIter it a i) where
 mem:=by simp
 obj:=fun i h st b hb=>by
  have e:b=it:=by simpa using hb
  subst e;obtain⟨o,e,c,d⟩:=st;exact⟨o,e,fun v z=>by rw[d]at z;cases z⟩
 keep:=fun i h h' st k=>st.at fun o e=>k it (by simp) o e
 item:=by intro X hP hw hK hc i sV s σ H E I hf st hg;subst hP hw hK;obtain⟨xs,x,hq,hx⟩:=hg;obtain⟨its,rv,p,hz⟩:=I.list hq;obtain⟨u,hu,ru⟩:=rv.get hx;obtain⟨f0,f1,f2,f3,f4,f5⟩:=hf it (by simp);refine wpAny_pyNext_list_item st p.isList (x:=u) (by simpa using hu) fun h' st' sb=>?_;have I1:Inv X sV σ H { s with heap:=h' }:=I.turned (t':=s.toks) (fun b o hb e=>(sb.2 b hb).trans e) f0 f1 f3 f4 f5;obtain⟨o,e,c,d⟩:=id st';exact⟨u,rfl,yX (s:={ s with heap:=h' }) e c d (by decide) ⟨x,H,I1,ru,⟨rfl,fun ys hy=>by rw[I.fT hy hq];exact hx⟩,st',fun b hb=>(hf b hb).1⟩⟩
 done:=by intro X hP hw hK hc i sV s σ H E I hf st hg;subst hP hw hK;obtain⟨xs,hq,hx⟩:=hg;obtain⟨its,rv,p,hz⟩:=I.list hq;obtain⟨f0,f1,f2,f3,f4,f5⟩:=hf it (by simp);have hl:=rv.length;exact wpAny_pyNext_list_end (I.ok.hd hc) st p.isList (by simp;lia) fun h' eb=>⟨rfl,I.turned (t':=s.toks) (fun b o hb e=>eb b o hb e) f0 f1 f3 f4 f5⟩
 self:=fun _ _ _ _ _ st h=>wpAny_pyIter_listiter st h
theorem xo(a it:Addr):Turn P w K tg (Itt K a) [it] it (fun i h=>h.IsTupleIter it a i) where
 mem:=by simp
 obj:=fun i h st b hb=>by
  have e:b=it:=by simpa using hb
  subst e;obtain⟨o,e,c,d⟩:=st;exact⟨o,e,fun v z=>by rw[d]at z;cases z⟩
 keep:=fun i h h' st k=>st.at fun o e=>k it (by simp) o e
 item:=by intro X hP hw hK hc i sV s σ H E I hf st hg;subst hP hw hK;obtain⟨xs,x,hq,hx⟩:=hg;obtain⟨its,rv,p,hz⟩:=I.tuple hq;obtain⟨u,hu,ru⟩:=rv.get hx;obtain⟨f0,f1,f2,f3,f4,f5⟩:=hf it (by simp);refine wpAny_pyNext_tuple_item st (show s.heap.IsTuple a its.toArray from p) (x:=u) (by simpa using hu) fun h' st' sb=>?_;have I1:Inv X sV σ H { s with heap:=h' }:=I.turned (t':=s.toks) (fun b o hb e=>(sb.2 b hb).trans e) f0 f1 f3 f4 f5;obtain⟨o,e,c,d⟩:=id st';exact⟨u,rfl,yX (s:={ s with heap:=h' }) e c d (by decide) ⟨x,H,I1,ru,⟨rfl,fun ys hy=>by rw[I.AF hy hq];exact hx⟩,st',fun b hb=>(hf b hb).1⟩⟩
 done:=by intro X hP hw hK hc i sV s σ H E I hf st hg;subst hP hw hK;obtain⟨xs,hq,hx⟩:=hg;obtain⟨its,rv,p,hz⟩:=I.tuple hq;obtain⟨f0,f1,f2,f3,f4,f5⟩:=hf it (by simp);have hl:=rv.length;exact wpAny_pyNext_tuple_end (I.ok.hd hc) st (show s.heap.IsTuple a its.toArray from p) (by simp;lia) fun h' eb=>⟨rfl,I.turned (t':=s.toks) (fun b o hb e=>eb b o hb e) f0 f1 f3 f4 f5⟩
 self:=fun _ _ _ _ _ st h=>wpAny_pyIter_tupleiter st h
theorem xq(it:Addr)(lo:Int)(n:Nat):Turn P w K tg (Itr lo n) [it] it (fun i h=>IsRangeIter h it (lo+(i:Nat)*1) ((n:Int)-(i:Nat)) 1) where
 mem:=by simp
 obj:=fun i h st b hb=>by
  have e:b=it:=by simpa using hb
  subst e;exact ⟨_,st,fun v z=>by have z':Xy _=W8 v:=z;cases z'⟩
 keep:=fun i h h' st k=>k it (by simp) _ st
 item:=by intro X hP hw hK hc i sV s σ H E I hf st hg;subst hP hw hK;obtain⟨f0,f1,f2,f3,f4,f5⟩:=hf it (by simp);have W:=Walks.range (prog:=X.prog) (w:=X.w) (I.ok.hd hc) it lo 1 n;refine W.item i s _ _ hg st fun v h' tk hv st' kk=>?_;obtain⟨t,rfl⟩:=hv;have I1:Inv X sV σ H { s with heap:=h',toks:=tk }:=I.turned (fun b o hb e=>kk b o (by simpa using hb) e) f0 f1 f3 f4 f5;refine⟨_,rfl,yX (s:={ s with heap:=h',toks:=tk }) (n := "range_iterator") st' rfl rfl (by decide) ⟨.int (lo+i),H,I1,⟨t,?_⟩,⟨rfl,rfl⟩,st',fun b hb=>(hf b hb).1⟩⟩;rw[Int.mul_one]
 done:=by intro X hP hw hK hc i sV s σ H E I hf st hg;subst hP hw hK;obtain⟨f0,f1,f2,f3,f4,f5⟩:=hf it (by simp);exact wpAny_pyNext_range_end (I.ok.hd hc) st (by have:n<=i:=hg;lia) fun h' eb=>⟨rfl,I.turned (t':=s.toks) (fun b o hb e=>eb b o hb e) f0 f1 f3 f4 f5⟩
 self:=fun _ _ _ _ _ st h=>wpAny_pyIter_rangeiter st h
end
section
variable{X:Cx}{tg:Expr}
section
variable{sV:List (Addr×Obj)}{fp:List Addr}{s:Shared}{σ:St}{H:Hp}{l:Expr}{h:Heap}{tl:TE}{ta:TA}
def tY(K:Dp)(tl:TE):TI:=fun σ H R=>tl σ H fun x H1=>∃a,x=.ref a/\(∃xs,SqL K H1 a xs)/\R (Itl K a) H1
def Cc(K:Dp)(tl:TE):TI:=fun σ H R=>tl σ H fun x H1=>∃a,x=.ref a/\(∃xs,SqT K H1 a xs)/\R (Itt K a) H1
theorem yY(hl:PE X l tl):PI X tg l (tY X.K tl):=by
 intro sV s σ H R I h;refine thn (hl sV s σ H _ I h) fun v s1 ⟨x,H1,I1,r1,q1⟩=>?_;obtain⟨a,e,⟨xs,hq⟩,q⟩:=q1;subst e;cases r1;obtain⟨its,rv,p,hz⟩:=I1.list hq;refine wpAny_pyIter_list p.isList ?_;refine⟨s1.heap.objs.size,[s1.heap.objs.size],_,_,H1,rfl,I1.kept (t':=s1.toks) fun b o e=>Ds _ e,AI a _,⟨_,To _ rfl,rfl,rfl⟩,fun b hb=>?_,q⟩;have e:b=s1.heap.objs.size:=by simpa using hb
 subst e;exact I1.xm (PU _) (I1.hok.fresh (PU _))
theorem Cd(hl:PE X l tl):PI X tg l (Cc X.K tl):=by
 intro sV s σ H R I h;refine thn (hl sV s σ H _ I h) fun v s1 ⟨x,H1,I1,r1,q1⟩=>?_;obtain⟨a,e,⟨xs,hq⟩,q⟩:=q1;subst e;cases r1;obtain⟨its,rv,p,hz⟩:=I1.tuple hq;refine wpAny_pyIter_tuple (show s1.heap.IsTuple a its.toArray from p) ?_;refine⟨s1.heap.objs.size,[s1.heap.objs.size],_,_,H1,rfl,I1.kept (t':=s1.toks) fun b o e=>Ds _ e,xo a _,⟨_,To _ rfl,rfl,rfl⟩,fun b hb=>?_,q⟩;have e:b=s1.heap.objs.size:=by simpa using hb
 subst e;exact I1.xm (PU _) (I1.hok.fresh (PU _))
theorem tZ{R:It->Hp->Prop}{E:Value->Shared->Prop}{lo hi:Int}{t u v:Tok}{tk:Nat}(I:Inv X sV σ H s)(h1:-(2 ^ 62)<=lo)(h2:lo<2 ^ 62)(h3:-(2 ^ 62)<=hi)(h4:hi<2 ^ 62)
  (q:R (Itr lo (hi-lo).toNat) H):wpAny (model X.prog X.w) X.A (pyIter (.ref s.heap.objs.size)) (PIE X sV σ tg R) E { s with heap:=s.heap.push { cls:=.type "range",data:=.fields #[.int lo t,.int hi u,.int 1 v] },toks:=tk }:=by
 refine wpAny_pyIter_range (IsRange.new ..) (small_one h1 h2 h3 h4) ?_;have I1:Inv X sV σ H { s with heap:=s.heap.push { cls:=.type "range",data:=.fields #[.int lo t,.int hi u,.int 1 v] },toks:=tk }:=I.kept fun b o e=>Ds _ e;refine ⟨(s.heap.push { cls:=.type "range",data:=.fields #[.int lo t,.int hi u,.int 1 v] }).objs.size,[(s.heap.push { cls:=.type "range",data:=.fields #[.int lo t,.int hi u,.int 1 v] }).objs.size],_,_,H,rfl,
  I1.kept (t':=tk) fun b o e=>Ds _ e,xq _ lo (hi-lo).toNat,?_,fun b hb=>?_,q⟩
 ·have e1:lo+((0:Nat):Int)*1=lo:=by simp
  have e2:(((hi-lo).toNat:Nat):Int)-((0:Nat):Int)=Builtin.Range.rangeSize lo hi 1:=by rw[rangeSize_one];split<;>lia
  show IsRangeIter _ _ (lo+((0:Nat):Int)*1) ((((hi-lo).toNat:Nat):Int)-((0:Nat):Int)) 1;rw[e1,e2];exact To _ rfl
 ·have e:b=(s.heap.push { cls:=.type "range",data:=.fields #[.int lo t,.int hi u,.int 1 v] }).objs.size:=by simpa using hb
  subst e;exact I1.xm (PU _) (I1.hok.fresh (PU _))
def JA(ta:TA):TI:=fun σ H R=>ta σ H fun vs H1=>∃j:Int,vs=[.int j]/\-(2 ^ 62)<=j/\j<2 ^ 62/\R (Itr 0 j.toNat) H1
def JB(ta:TA):TI:=fun σ H R=>ta σ H fun vs H1=>∃i j:Int,vs=[.int i,.int j]/\(-(2 ^ 62)<=i/\i<2 ^ 62/\-(2 ^ 62)<=j/\j<2 ^ 62)/\R (Itr i (j-i).toNat) H1
theorem AJ{a:Expr}{p pos:Pos}(hg:Gl X "range")(hm:X.mg "range" = none)(ha:PA X [a] ta)(hs:starEach [a] X.env=[(false,eval a X.env)]:=by rfl):PI X tg (.Call (.Name "range" p) [a] [] pos) (JA ta):=by
 intro sV s σ H R I h;refine Call_ (cW I hg hm boot_range (Ub (thn (ha pos sV s σ H _ I h) fun us s1 ⟨vs,H1,I1,r1,q1⟩=>?_) hs rfl));obtain⟨j,e,q1,q2,q⟩:=q1;subst e;cases r1 with
 |cons r rr=>cases rr;obtain⟨t,rfl⟩:=r;exact call_range_1 (tZ I1 (by lia) (by lia) q1 q2 (by simpa using q))
theorem AK{a b:Expr}{p pos:Pos}(hg:Gl X "range")(hm:X.mg "range" = none)(ha:PA X [a,b] ta)(hs:starEach [a,b] X.env=[(false,eval a X.env),(false,eval b X.env)]:=by rfl)(hs2:starEach [b] X.env=[(false,eval b X.env)]:=by rfl) :
  PI X tg (.Call (.Name "range" p) [a,b] [] pos) (JB ta):=by
 intro sV s σ H R I h;refine Call_ (cW I hg hm boot_range (Ub (thn (ha pos sV s σ H _ I h) fun us s1 ⟨vs,H1,I1,r1,q1⟩=>?_) (by rw[hs,hs2]) (by rw[hs2];rfl)));obtain⟨i,j,e,⟨q1,q2,q3,q4⟩,q⟩:=q1;subst e;cases r1 with
 |cons r rr=>
  cases rr with
  |cons r' rr=>cases rr;obtain⟨t,rfl⟩:=r;obtain⟨t',rfl⟩:=r';exact call_range_2 (tZ I1 q1 q2 q3 q4 q)
def Lo(wi:TI)(g:TG)(tb:TS):TS:=fun D σ H=>wi σ H fun J H1=>∃W:Nat->Nat->St->Hp->Prop,(∃m,W 0 m σ H1)/\∀i m σ H,W i m σ H ->
 (J.stop i H/\D.nx σ H)\/(J.go i H/\∃N:St->Hp->Prop,(∀σ' H',N σ' H'->∃m',m'<m/\W (i+1) m' σ' H')/\∀x H',J.yld i H x H'->g x σ H' fun σ2 H2=>tb { D with nx:=N,ct:=N,bk:=D.nx } σ2 H2)
noncomputable def mE(fp:List Addr)(h:Heap):List (Addr×Obj):=fp.filterMap fun b=>(h.get? b).map fun o=>(b,o)
theorem fh{b:Addr}{o:Obj}(hb:b∈fp)(e:h.get? b=some o):(b,o)∈mE fp h:=Vw.mpr ⟨b,hb,by rw[e];rfl⟩
theorem AL{p:Addr×Obj}(hp:p∈mE fp h):p.1∈fp/\h.get? p.1=some p.2:=by
 obtain⟨b,hb,e⟩:=Vw.mp hp;cases q:h.get? b with
 |none=>rw[q]at e;cases e
 |some o=>rw[q]at e;have e':(b,o)=p:=Option.some.inj e;subst e';exact⟨hb,q⟩
theorem Inv.pinned(I:Inv X sV σ H s)(hf:∀b∈fp,mD X sV H b)(ho:∀b∈fp,∃o,s.heap.get? b=some o/\∀v,o.data≠.cell v):Inv X (sV++mE fp s.heap) σ H s:=
 I.lZ fun p hp=>(Tp.mp hp).elim (fun z=>I.pin p (TF _ z)) fun z=>by obtain⟨hb,e⟩:=AL z;obtain⟨f0,f1,f2,_⟩:=hf p.1 hb;obtain⟨o,e',d⟩:=ho p.1 hb;rw[e]at e';cases e';exact⟨e,f0,f1,f2,d⟩
theorem Inv.jr{sV pl:List (Addr×Obj)}(I:Inv X (sV++pl) σ H s):Inv X sV σ H s:=I.lZ fun p hp=>I.pin p (TF _ (T6 _ hp))
theorem Ce{iter:Expr}{body:List Stmt}{wi:TI}{g:TG}{tb:TS}{pos:Pos}(hp:PassesOwn (model X.prog X.w) X.A X.env X.xe)(hc:X.calm=true)(hi:PI X tg iter wi)(hg:PG X tg g)(hb:PSs X body tb)
  (hs:∀x,foldedSetIterable iter X.env x=pure x:=by intro _;rfl):PS X (.For tg iter body [] pos) (Lo wi g tb):=by
 intro sV s σ H D I h;refine wpAny_For (thn (hi sV s σ H _ I h) fun v s1 h1=>thn h1 fun itv s2 h2=>?_) hs;obtain⟨it,fp,tn,J,H2,e,I2,T,st2,f2,W,⟨m0,w0⟩,turn⟩:=h2;subst e;have stat:∀{H':Hp},(∀b∈fp,H' b=none)->∀b∈fp,mD X sV H' b:=fun hn b hb=>⟨hn b hb,(f2 b hb).2⟩;refine codeAny_forLoop_any (fun n s'=>∃i σ' H',Inv X sV σ' H' s'/\tn i s'.heap/\(∀b∈fp,H' b=none)/\W i n σ' H') ?_ m0 ⟨0,σ,H2,I2,st2,fun b hb=>(f2 b hb).1,w0⟩;rintro n s3 ⟨i,σ3,H3,I3,st3,fr3,w3⟩;rcases turn i n σ3 H3 w3 with⟨stop,qn⟩ | ⟨go,N,hN,step⟩
 ·refine wpAny_passesOwn hp (thn (T.done X rfl rfl rfl hc i sV s3 σ3 H3 X.xe I3 (stat fr3) st3 stop) fun r s4 ⟨hr,I4⟩=>?_);subst hr;exact wpAny_execs_nil ⟨σ3,H3,I4,qn⟩
 ·refine wpAny_passesOwn hp (thn (T.item X rfl rfl rfl hc i sV s3 σ3 H3 X.xe I3 (stat fr3) st3 go) fun r s4 ⟨u,hr,h4⟩=>?_);subst hr;refine wpAny_passesOwn hp (thn h4 fun _ s5 ⟨x,H5,I5,r5,y5,st5,fr5⟩=>?_);have I5':=I5.pinned (stat fr5) (T.obj _ _ st5);refine wpAny_passesOwn hp (thn (hg _ s5 σ3 H5 x u _ I5' r5 (step x H5 y5)) fun _ s6 ⟨σ6,H6,I6,q6⟩=>?_);refine wpAny_passesOwn hp (thn (hb _ s6 σ6 H6 _ I6 q6) fun f s7 q7=>?_);have again:∀{σ7:St} {H7:Hp},Inv X (sV++mE fp s5.heap) σ7 H7 s7->N σ7 H7->∃m,m<n/\∃i σ' H',Inv X sV σ' H' s7/\tn i s7.heap/\(∀b∈fp,H' b=none)/\W i m σ' H':=fun {σ7 H7} I7 n7=>by
   obtain⟨m',hm,w7⟩:=hN σ7 H7 n7;refine⟨m',hm,i+1,σ7,H7,I7.jr,T.keep _ _ _ st5 fun b hb o e=>(I7.pin (b,o) (TF _ (TF _ (fh hb e)))).1,fun b hb=>?_,w7⟩;obtain⟨o,e,d⟩:=T.obj _ _ st5 b hb;exact(I7.pin (b,o) (TF _ (TF _ (fh hb e)))).2.1
  cases f with
  |next=>obtain⟨σ7,H7,I7,n7⟩:=q7;exact again I7 n7
  |cont=>obtain⟨σ7,H7,I7,n7⟩:=q7;exact again I7 n7
  |brk=>obtain⟨σ7,H7,I7,q7⟩:=q7;exact⟨σ7,H7,I7.jr,q7⟩
  |ret v=>obtain⟨x7,σ7,H7,I7,r7,q7⟩:=q7;exact⟨x7,σ7,H7,I7.jr,r7,q7⟩
end
end
noncomputable abbrev R2:=V->V->Hp->VK->Prop
def OpR(X:Cx)(f:Value->Value->Sem Value)(r:R2):Prop:=
 ∀(sV:List (Addr×Obj)) (s:Shared) (σ:St) (H:Hp) (x y:V) (v u:Value) (Q:VK),Inv X sV σ H s->RelV x v->RelV y u->r x y H Q ->
  wpAny (model X.prog X.w) X.A (f v u) (EP X sV σ Q) X.xe s
def dM(X:Cx)(f:Value)(r:List V->Hp->VK->Prop):Prop:=
 ∀(sV:List (Addr×Obj)) (s:Shared) (σ:St) (H:Hp) (xs:List V) (us:List Value) (Q:VK),Inv X sV σ H s->Vals xs us->r xs H Q ->
  wpAny (model X.prog X.w) X.A (call f us) (EP X sV σ Q) X.xe s
def RG(X:Cx)(r:V->Hp->(Bool->Hp->Prop)->Prop):Prop:=
 ∀(sV:List (Addr×Obj)) (s:Shared) (σ:St) (H:Hp) (x:V) (v:Value) (Q:Bool->Hp->Prop),Inv X sV σ H s->RelV x v->r x H Q ->
  wpAny (model X.prog X.w) X.A (truthy v) (TP X sV σ Q) X.xe s
def tOp(r:R2)(ta tb:TE):TE:=fun σ H Q=>ta σ H fun x H1=>tb σ H1 fun y H2=>r x y H2 Q
def tUn(r:V->Hp->VK->Prop)(ta:TE):TE:=fun σ H Q=>ta σ H fun x H1=>r x H1 Q
def rI(C:Int->Int->Prop)(g:Int->Int->V):R2:=fun x y H Q=>∃i j,x=.int i/\y=.int j/\C i j/\Q (g i j) H
def rI0(g:Int->Int->V):R2:=fun x y H Q=>∃i j,x=.int i/\y=.int j/\Q (g i j) H
section
variable{X:Cx}{a b c:Expr}{ta tb tc:TE}{pos:Pos}
theorem Lp(ha:PE X a ta)(hb:PE X b tb){sV:List (Addr×Obj)}{s:Shared}{σ:St}{H:Hp}{R:V->V->Hp->Prop}(I:Inv X sV σ H s)
  (h:ta σ H fun x H1=>tb σ H1 fun y H2=>R x y H2) {Q:Value->Shared->Prop} {f:Value->Value->Sem Value}
  (hf:∀v u s2 x y H2,Inv X sV σ H2 s2->RelV x v->RelV y u->R x y H2->wpAny (model X.prog X.w) X.A (f v u) Q X.xe s2) :
  wpAny (model X.prog X.w) X.A (eval a X.env) (fun v s₁=>wpAny (model X.prog X.w) X.A (eval b X.env) (fun u s₂=>wpAny (model X.prog X.w) X.A (f v u) Q X.xe s₂) X.xe s₁) X.xe s:=by
 refine thn (ha sV s σ H _ I h) fun v s1 ⟨x,H1,I1,r1,q1⟩=>?_;refine thn (hb sV s1 σ H1 _ I1 q1) fun u s2 ⟨y,H2,I2,r2,q2⟩=>?_;exact hf v u s2 x y H2 I2 r1 r2 q2
theorem OM{op:Operator}{r:R2}(ho:OpR X (binaryOp op) r)(ha:PE X a ta)(hb:PE X b tb):PE X (.BinOp a op b pos) (tOp r ta tb):=by intro sV s σ H Q I h;exact wpAny_BinOp (Lp ha hb I h fun v u s2 x y H2 I2 rx ry q=>ho sV s2 σ H2 x y v u Q I2 rx ry q)
theorem opI{f:Value->Value->Sem Value}{C:Int->Int->Prop}{g:Int->Int->Int}
  (rule:∀(i j:Int) (t u:Tok) (s:Shared) (Q:Value->Shared->Prop) (E:Value->Shared->Prop),C i j->Q (.int (g i j) s.toks) { s with toks:=s.toks+1 }->wpAny (model X.prog X.w) X.A (f (.int i t) (.int j u)) Q E s) :
  OpR X f (rI C fun i j=>.int (g i j)):=by
 intro sV s σ H x y v u Q I rx ry h;obtain⟨i,j,rfl,rfl,hc,q⟩:=h;obtain⟨t,rfl⟩:=rx;obtain⟨t',rfl⟩:=ry;exact rule i j t t' s _ _ hc ⟨.int (g i j),H,I.tok _,⟨_,rfl⟩,q⟩
theorem Lq{f:Value->Value->Sem Value}{g:Int->Int->Int}
  (rule:∀(i j:Int) (t u:Tok) (s:Shared) (Q:Value->Shared->Prop) (E:Value->Shared->Prop),Q (.int (g i j) s.toks) { s with toks:=s.toks+1 }->wpAny (model X.prog X.w) X.A (f (.int i t) (.int j u)) Q E s) :
  OpR X f (rI0 fun i j=>.int (g i j)):=by
 intro sV s σ H x y v u Q I rx ry h;obtain⟨i,j,rfl,rfl,q⟩:=h;obtain⟨t,rfl⟩:=rx;obtain⟨t',rfl⟩:=ry;exact rule i j t t' s _ _ ⟨.int (g i j),H,I.tok _,⟨_,rfl⟩,q⟩
theorem GN{f:Value->Value->Sem Value}{g:Int->Int->Bool}
  (rule:∀(i j:Int) (t u:Tok) (s:Shared) (Q:Value->Shared->Prop) (E:Value->Shared->Prop),Q (.bool (g i j)) s->wpAny (model X.prog X.w) X.A (f (.int i t) (.int j u)) Q E s) :
  OpR X f (rI0 fun i j=>.bl (g i j)):=by
 intro sV s σ H x y v u Q I rx ry h;obtain⟨i,j,rfl,rfl,q⟩:=h;obtain⟨t,rfl⟩:=rx;obtain⟨t',rfl⟩:=ry;exact rule i j t t' s _ _ ⟨.bl (g i j),H,I,rfl,q⟩
def GO(i j:Int):Prop:=0<=j/\j<=1000000/\i.natAbs<2 ^ 64
def Cf(i j:Int):Prop:=(-(2 ^ 64)<i/\i<2 ^ 64)\/(-(2 ^ 64)<j/\j<2 ^ 64)
theorem Cf.ok{i j:Int}(h:Cf i j):IntMulOk i j:=by
 rcases h with⟨h1,h2⟩ | ⟨h1,h2⟩
 ·exact .of_left (intBits_le_64 h1 h2)
 ·exact .of_right (intBits_le_64 h1 h2)
theorem two_pow_nn(k:Nat):(0:Int)<=2 ^ k:=by rw[two_pow_cast];exact Int.natCast_nonneg _
theorem Lr:OpR X (binaryOp .Add) (rI0 fun i j=>.int (i+j)):=Lq fun _ _ _ _ _ _ _ q=>add_int q
theorem Ls:OpR X (binaryOp .Sub) (rI0 fun i j=>.int (i-j)):=Lq fun _ _ _ _ _ _ _ q=>sub_int q
theorem Lu:OpR X (binaryOp .Mult) (rI Cf fun i j=>.int (i*j)):=opI fun _ _ _ _ _ _ _ hc q=>mul_int q hc.ok
theorem Lv:OpR X (binaryOp .Mod) (rI (fun _ j=>0<j) fun i j=>.int (i % j)):=opI fun i j _ _ _ _ _ hc q=>by have h1:(0:Int)<j:=hc;exact mod_int' (by lia) (by rw[Int.fmod_eq_emod_of_nonneg i (by lia)];exact q)
theorem Lw:OpR X (binaryOp .Pow) (rI GO fun i j=>.int (i ^ j.toNat)):=opI fun _ _ _ _ _ _ _ hc q=>pow_int_small hc.1 hc.2.1 hc.2.2 q
theorem Lx:OpR X (binaryOp .LShift) (rI GO fun i j=>.int (i*2 ^ j.toNat)):=opI fun _ _ _ _ _ _ _ hc q=>lshift_int_small hc.1 hc.2.1 hc.2.2 q
theorem Ly:OpR X (binaryOp .RShift) (rI (fun _ j=>0<=j) fun i j=>.int (i / 2 ^ j.toNat)):=opI fun i j _ _ _ _ _ hc q=>rshift_int hc (by rw[Int.fdiv_eq_ediv_of_nonneg i (two_pow_nn _)];exact q)
theorem Lz:OpR X (binaryOp .BitAnd) (rI0 fun i j=>.int (WI i j)):=Lq fun _ _ _ _ _ _ _ q=>and_int q
end
section
variable{X:Cx}{a b c:Expr}{ta tb tc:TE}{pos:Pos}
theorem JC:OpR X (compareOp .Lt) (rI0 fun i j=>.bl (decide (i<j))):=GN fun _ _ _ _ _ _ _ q=>lt_int q
theorem yZ:OpR X (compareOp .LtE) (rI0 fun i j=>.bl (decide (i<=j))):=GN fun _ _ _ _ _ _ _ q=>le_int q
theorem ON:OpR X (compareOp .Gt) (rI0 fun i j=>.bl (decide (j<i))):=GN fun _ _ _ _ _ _ _ q=>gt_int q
theorem OO:OpR X (compareOp .GtE) (rI0 fun i j=>.bl (decide (j<=i))):=GN fun _ _ _ _ _ _ _ q=>ge_int q
theorem OpR.or{f:Value->Value->Sem Value}{r r':R2}(h:OpR X f r)(h':OpR X f r'):OpR X f (fun x y H Q=>r x y H Q\/r' x y H Q):=by
 intro sV s σ H x y v u Q I rx ry q;rcases q with q | q
 ·exact h sV s σ H x y v u Q I rx ry q
 ·exact h' sV s σ H x y v u Q I rx ry q
theorem d8(b:Expr){op:CmpOp}(h:op≠.In:=by decide)(h2:op≠.NotIn:=by decide):behindInMarks op b=false:=by
 have e1:(op == CmpOp.In)=false:=by cases op<;>first | rfl | exact absurd rfl h
 have e2:(op == CmpOp.NotIn)=false:=by cases op<;>first | rfl | exact absurd rfl h2
 cases b<;>simp[behindInMarks,e1,e2]
theorem GP{op:CmpOp}{r:R2}(ho:OpR X (compareOp op) r)(ha:PE X a ta)(hb:PE X b tb)(hm:behindInMarks op b=false):PE X (.Compare a [op] [b] pos) (tOp r ta tb):=by intro sV s σ H Q I h;exact wpAny_Compare1 (Lp ha hb I h fun v u s2 x y H2 I2 rx ry q=>ho sV s2 σ H2 x y v u Q I2 rx ry q) hm
def JD(t:TE):TT:=fun σ H Q=>t σ H fun x H'=>∃k,x=.bl k/\Q k H'
theorem GQ{op:CmpOp}{r:R2}(ho:OpR X (compareOp op) r)(ha:PE X a ta)(hb:PE X b tb)(hm:behindInMarks op b=false):PT X (.Compare a [op] [b] pos) (JD (tOp r ta tb)):=by
 intro sV s σ H Q I h;refine wpAny_isTrue_Compare1 (thn (ha sV s σ H _ I h) fun v s1 ⟨x,H1,I1,r1,q1⟩=>thn (hb sV s1 σ H1 _ I1 q1) fun u s2 ⟨y,H2,I2,r2,q2⟩=>thn (ho sV s2 σ H2 x y v u _ I2 r1 r2 q2) fun c s3 ⟨z,H3,I3,r3,k,e,q3⟩=>?_) hm
 subst e;cases r3;exact wpAny_truthy_bool ⟨H3,I3,q3⟩
def Cg(r r':R2)(ta tb tc:TE):TE:=fun σ H Q=>ta σ H fun x H1=>tb σ H1 fun y H2=>r x y H2 fun z H3=>∃k,z=.bl k /\
 (if k=true then tc σ H3 fun w' H4=>r' y w' H4 Q else Q (.bl false) H3)
theorem Ci{op op':CmpOp}{r r':R2}(ho:OpR X (compareOp op) r)(ho':OpR X (compareOp op') r')(ha:PE X a ta)(hb:PE X b tb)(hc:PE X c tc)
  (hm:lastMarks [op,op'] [b,c]=false:=by with_unfolding_all rfl):PE X (.Compare a [op,op'] [b,c] pos) (Cg r r' ta tb tc):=by
 intro sV s σ H Q I h;refine Compare_chain (thn (ha sV s σ H _ I h) fun v s1 ⟨x,H1,I1,r1,q1⟩=>chain_link (thn (hb sV s1 σ H1 _ I1 q1) fun u s2 ⟨y,H2,I2,r2,q2⟩=>thn (ho sV s2 σ H2 x y v u _ I2 r1 r2 q2) fun d s3 ⟨z,H3,I3,r3,k,e,q3⟩=>?_)) hm
 subst e;cases r3;refine wpAny_truthy_bool ?_;cases k with
 |false=>exact ite_ff ⟨.bl false,H3,I3,rfl,q3⟩
 |true=>exact ite_tt (chain_last (thn (hc sV s3 σ H3 _ I3 q3) fun w' s4 ⟨z',H4,I4,r4,q4⟩=>ho' sV s4 σ H4 y z' u w' Q I4 r2 r4 q4))
def LA(K:Dp)(x:V)(H:Hp)(k:Bool):Prop:=
 match x with
 |.non=>k=false
 |.bl b=>k=b
 |.int i=>k=(i != 0)
 |.str y=>y.length<=sizeLine/\k=((y.length:Int) != 0)
 |.byt y=>y.size<=sizeLine/\k=((y.size:Int) != 0)
 |.ref p=>(∃xs,SqL K H p xs/\k=!xs.isEmpty)\/(∃xs,SqT K H p xs/\k=!xs.isEmpty)\/∃kvs,H p=some (.dK kvs)/\k=!kvs.isEmpty
 |_=>False
theorem xr{κ:Type}{kvs:List (κ×V)}{vs:List (κ×Value)}(r:KV kvs vs):(!vs.isEmpty)=!kvs.isEmpty:=by cases r<;>rfl
theorem mF{xs:List V}{its:List Value}(r:Vals xs its):(!its.toArray.isEmpty)=!xs.isEmpty:=by cases r<;>simp
theorem mG:(sizeLine:Nat)<2 ^ 63:=by rw[sizeLine_eq];decide
theorem LB:RG X (fun x H Q=>∃k,LA X.K x H k/\Q k H):=by
 intro sV s σ H x v Q I rx h;obtain⟨k,e,q⟩:=h;have hl:=mG;have hs:sizeLine=16777216:=sizeLine_eq;cases x with
 |non=>cases rx;have e':k=false:=e;subst e';exact truthy_none ⟨H,I,q⟩
 |bl b=>cases rx;have e':k=b:=e;subst e';exact wpAny_truthy_bool ⟨H,I,q⟩
 |int i=>obtain⟨t,rfl⟩:=rx;have e':k=(i != 0):=e;subst e';exact PySem.P.truthy_int ⟨H,I,q⟩
 |str y=>obtain⟨t,rfl⟩:=rx;obtain⟨hy,e'⟩:y.length<=sizeLine/\k=((y.length:Int) != 0):=e;subst e';exact PySem.P.truthy_str (by lia) ⟨H,I.tok _,q⟩
 |byt y=>obtain⟨t,rfl⟩:=rx;obtain⟨hy,e'⟩:y.size<=sizeLine/\k=((y.size:Int) != 0):=e;subst e';exact PySem.W.truthy_bytes (by lia) ⟨H,I.tok _,q⟩
 |ref p=>
  cases rx;have e':(∃xs,SqL X.K H p xs/\k=!xs.isEmpty)\/(∃xs,SqT X.K H p xs/\k=!xs.isEmpty)\/∃kvs,H p=some (.dK kvs)/\k=!kvs.isEmpty:=e;rcases e' with⟨xs,hx,e'⟩ | ⟨xs,hx,e'⟩ | ⟨kvs,hx,e'⟩
  ·subst e';obtain⟨its,r,pl,hz⟩:=I.list hx;have D9:=r.length;exact wpAny_truthy_list pl.isList (by simp only[S6];lia) ⟨H,I.tok _,by rw[mF r];exact q⟩
  ·subst e';obtain⟨its,r,pl,hz⟩:=I.tuple hx;have D9:=r.length;exact truthy_tuple pl (by simp only[S6];lia) ⟨H,I.tok _,by rw[mF r];exact q⟩
  ·subst e';obtain⟨hz,hS,vs,r,m⟩:kvs.length<=sizeLine/\(p == sysModules)=false/\∃vs,KV kvs vs/\s.heap.DictOf (a_ X.prog X.w) p vs:=I.hok p _ hx;have D9:kvs.length=vs.length:=Paired.length r;exact wpAny_truthy_dict hS m (by lia) ⟨H,I.tok _,by rw[xr r];exact q⟩
 |_=>exact(show False from e).elim
theorem Cj(ha:PE X a ta)(he:∀whole,isTrue a X.env whole=(do let v <- whole;standAt a.pos;holding [v] (truthy v))) :
  PT X a (fun σ H Q=>ta σ H fun x H'=>∃k,LA X.K x H' k/\Q k H'):=by
 intro sV s σ H Q I h;exact isTrue_plain (thn (ha sV s σ H _ I h) fun v s1 ⟨x,H1,I1,r1,q1⟩=>LB sV s1 σ H1 x v Q I1 r1 q1) (he _)
theorem vals1{x:V}{us:List Value}(r:Vals [x] us):∃u,us=[u]/\RelV x u:=by
 cases r with
 |cons r1 r2=>cases r2;exact⟨_,rfl,r1⟩
theorem vals2{x y:V}{us:List Value}(r:Vals [x,y] us):∃u w',us=[u,w']/\RelV x u/\RelV y w':=by
 cases r with
 |cons r1 r2=>
  cases r2 with
  |cons r3 r4=>cases r4;exact⟨_,_,rfl,r1,r3⟩
theorem AO(hc:X.calm=true):dM X (.builtin "max") (fun xs H Q=>∃i j,xs=[.int i,.int j]/\Q (.int (if j>i then j else i)) H):=by
 intro sV s σ H xs us Q I r h;obtain⟨i,j,rfl,q⟩:=h;obtain⟨u,w',rfl,⟨t,rfl⟩,⟨t',rfl⟩⟩:=vals2 r;refine max_two_ints (I.ok.hd hc) fun h' tk k=>⟨_,H,I.kept k,?_,q⟩;by_cases hj:j>i
 ·rw[if_pos hj,if_pos hj];exact⟨_,rfl⟩
 ·rw[if_neg hj,if_neg hj];exact⟨_,rfl⟩
theorem AQ(hc:X.calm=true):dM X (.builtin "min") (fun xs H Q=>∃i j,xs=[.int i,.int j]/\Q (.int (if j<i then j else i)) H):=by
 intro sV s σ H xs us Q I r h;obtain⟨i,j,rfl,q⟩:=h;obtain⟨u,w',rfl,⟨t,rfl⟩,⟨t',rfl⟩⟩:=vals2 r;refine min_two_ints (I.ok.hd hc) fun h' tk k=>⟨_,H,I.kept k,?_,q⟩;by_cases hj:j<i
 ·rw[if_pos hj,if_pos hj];exact⟨_,rfl⟩
 ·rw[if_neg hj,if_neg hj];exact⟨_,rfl⟩
end
section
variable{mA:Str->Option Value}{h:Heap}
structure LC(h:Heap)(x dx C:Addr)(mA:Str->Option Value):Prop where
 obj:h.get? x=some (W7 C dx)
 ns:h.Ns1 dx mA
 ne:dx≠x
theorem AR{dx:Addr}(n:h.Ns1 dx mA):∃od,h.get? dx=some od/\∀name,Xg name od=some (mA name):=by
 obtain⟨o,es,ep,ho,hd,hk,_,hm⟩:=n;refine⟨o,ho,fun name=>?_⟩;have e:=hm name;unfold nsFind findBy at e;rw[<- Array.find?_toList]at e;unfold Xg;rw[hd];dsimp only;split
 ·rename_i y q;rw[q]at e;exact congrArg some e
 ·rename_i q;rw[q]at e;have a:es.toList.any (·.refKey)=false:=by
   rw[List.any_eq_false];intro y hy;obtain⟨z,t,hkey⟩:=hk y (Array.mem_toList_iff.mp hy);simp[DictEntry.refKey,hkey]
  have a':¬es.toList.any (·.refKey)=true:=by rw[a];exact TQ
  rw[if_neg a'];exact congrArg some e
theorem LC.look{x dx C:Addr}(I:LC h x dx C mA):∃od,PySem.W.InstAt h x (W7 C dx) C (some od)/\∀name,Xg name od=some (mA name):=
 let ⟨od,ho,hl⟩:=AR I.ns
 ⟨od,⟨I.obj,rfl,rfl,ho⟩,hl⟩
theorem jn.some_of{v:V}{o:Option Value}(r:jn (some v) o):∃u,o=some u/\RelV v u:=by
 cases o with
 |none=>exact(show False from r).elim
 |some u=>exact⟨u,rfl,r⟩
end
section
variable{P:Program}{w:World}{H H':Hp}{h h':Heap}{a C dx:Addr}{fs fs':List (Str×V)}
theorem GR(hok:HOk P w H h)(e:H a=some (.ins C dx fs)):∃mA,LC h a dx C mA/\(∀f,jn (fs.lookup f) (mA f))/\PySem.Within mA (fs.map (·.1))/\fs.length<=1000/\H dx=some (.own a):=by
 obtain⟨d,z,ne,ob,mA,n,r,q⟩:=(show aU P w H h a (.ins C dx fs) from hok a _ e)
 exact⟨mA,⟨ob,n,ne⟩,r,q,z,d⟩
end
structure Cls(K:Dp)(C:Addr):Prop where
 pg:PySem.W.plainGet K C Str.empty=true
 hd:PySem.W.hasDictIn K C=true
 po:PySem.W.plainOver K C=true
 sa:PySem.W.findIn K (.ref C) "__setattr__" = some (some (.builtin "object.__setattr__"))
theorem Cls.get{K:Dp}{C:Addr}(c:Cls K C)(f:Str):PySem.W.plainGet K C f=true:=c.pg
section
variable{X:Cx}{sV:List (Addr×Obj)}{σ:St}{H:Hp}{s:Shared}{A:Around}{E:Value->Shared->Prop}{Q:Value->Shared->Prop}{c:Value}{b:Bool}
inductive jt(K:Dp)(H:Hp):V->Value->Prop where
 |non:jt K H .non (.type "NoneType")
 |bl (x:Bool):jt K H (.bl x) (.type "bool")
 |int (i:Int):jt K H (.int i) (.type "int")
 |str (x:Str):jt K H (.str x) (.type "str")
 |flt (x:UInt64):jt K H (.flt x) (.type "float")
 |lst {a:Addr} {xs:List V} (e:H a=some (.lst xs)):jt K H (.ref a) (.type "list")
 |frz {a:Addr} {o:Obj} {xs:List V} (e:H a=some (.frz o (.lst xs))):jt K H (.ref a) (.type "list")
 |tup {a:Addr} {xs:List V} (e:H a=some (.tup xs)):jt K H (.ref a) (.type "tuple")
 |dK {a:Addr} {kvs:List (Key×V)} (e:H a=some (.dK kvs)):jt K H (.ref a) (.type "dict")
 |dT {a:Addr} {kvs:List (List Key×V)} (e:H a=some (.dT kvs)):jt K H (.ref a) (.type "dict")
 |ins {a C dx:Addr} {fs:List (Str×V)} (e:H a=some (.ins C dx fs)) (cl:Cls K C) (ha:PySem.W.findIn K (.ref C) "__class__" = some (some (.builtin "object.__class__")))
   (hn:PySem.W.specialIn K (.builtin "object.__class__") "__get__" = some (some (.builtin "getset_descriptor.__get__"))) (htk:PySem.W.takesIn K (.builtin "object.__class__")=some true)
   (hm:PySem.W.mroIn K C (.type "object")=some true):jt K H (.ref a) (.ref C)
theorem AS{x:V}{u t:Value}(I:Inv X sV σ H s)(rx:RelV x u)(ty:jt X.K H x t)(e:Xh X.K t c=some b)(h:∀tk,Q (.bool b) { s with toks:=tk }) :
  wpAny (model X.prog X.w) A (call (.builtin "isinstance") [u,c]) Q E s:=by
 cases ty with
 |non=>cases (show u=Xo from rx);exact UB PySem.W.kitx_none I.kIn UX e (fun z=>nomatch z) h
 |bl y=>cases (show u=Xz y from rx);exact UB PySem.W.kitx_bool I.kIn UX e (fun z=>nomatch z) h
 |int i=>obtain⟨t,q⟩:=(show ∃t,u=Vj i t from rx);cases q;exact UB PySem.W.kitx_int I.kIn UX e (fun z=>nomatch z) h
 |str y=>obtain⟨t,q⟩:=(show ∃t,u=W6 y t from rx);cases q;exact UB PySem.W.kitx_str I.kIn UX e (fun z=>nomatch z) h
 |flt y=>obtain⟨t,q⟩:=(show ∃t,u=Value.float y t from rx);cases q;exact UB PySem.W.kitx_float I.kIn UX e (fun z=>nomatch z) h
 |@lst a xs ea=>
  cases (show u=Tz a from rx);obtain⟨_,_,n,_,h1⟩:=(show aU X.prog X.w H s.heap a (.lst xs) from I.hok a _ ea)
  exact UB PySem.W.kitx_list I.kIn ⟨_,h1,rfl⟩ e (fun z=>nomatch z) h
 |@frz a ob xs ea=>
  cases (show u=Tz a from rx);obtain⟨_,_,_,n,_,h1⟩:=(show aU X.prog X.w H s.heap a (.frz ob (.lst xs)) from I.hok a _ ea)
  exact UB PySem.W.kitx_list I.kIn ⟨_,h1,rfl⟩ e (fun z=>nomatch z) h
 |@tup a xs ea=>
  cases (show u=Tz a from rx);obtain⟨_,_,_,p⟩:=(show aU X.prog X.w H s.heap a (.tup xs) from I.hok a _ ea)
  obtain⟨o,h1,h2,_⟩:=p;exact UB PySem.W.kitx_tuple I.kIn ⟨o,h1,h2⟩ e (fun z=>nomatch z) h
 |@dK a kvs ea=>
  cases (show u=Tz a from rx);obtain⟨_,_,vs,_,p⟩:=(show aU X.prog X.w H s.heap a (.dK kvs) from I.hok a _ ea)
  obtain⟨o,es,ep,h1,h2,_⟩:=p;exact UB PySem.W.kitx_dict I.kIn ⟨o,h1,h2.1⟩ e (fun z=>nomatch z) h
 |@dT a kvs ea=>
  cases (show u=Tz a from rx);obtain⟨_,_,xs,_,o,es,ep,h1,h2,_⟩:=(show aU X.prog X.w H s.heap a (.dT kvs) from I.hok a _ ea)
  exact UB PySem.W.kitx_dict I.kIn ⟨o,h1,h2.1⟩ e (fun z=>nomatch z) h
 |@ins a C dx fs ea cl ha hn htk hm=>cases (show u=Tz a from rx);obtain⟨mA,O,_⟩:=GR I.hok ea;obtain⟨od,J,_⟩:=O.look;exact UB (PySem.W.kitx_own (cl.get _) cl.hd ha hn htk hm) I.kIn J e (fun z=>nomatch z) h
end
section
variable{A:Around}{k:Nat}
structure aX(k:Nat)(A:Around):Prop where
 hd:A.handled=none
 dp:A.depth+3*k+5<recursionLimit
 un:A.units+16*k+200<cLine
 gd:A.guards=some []
theorem aX.mono{j k:Nat}(r:aX k A)(h:j<=k):aX j A:=⟨r.hd,by have:=r.dp;lia,by have:=r.un;lia,r.gd⟩
theorem aX.deeper(r:aX (k+1) A)(env:Env):aX k (A.deeper env):=
 ⟨r.hd,by have:=r.dp;show A.depth+1+3*k+5<_;lia,by have:=r.un;show A.units+3+16*k+200<_;lia,r.gd⟩
theorem aX.in1(r:aX (k+1) A):aX k A.in1:=
 ⟨r.hd,by have:=r.dp;show A.depth+3*k+5<_;lia,by have:=r.un;show A.units+1+16*k+200<_;lia,r.gd⟩
theorem aX.depth(r:aX k A):A.depth<recursionLimit:=by have:=r.dp;lia
theorem aX.units(r:aX k A):A.units+64<cLine:=by have:=r.un;lia
theorem aX.LD(r:aX k A):A.units<cLine:=by have:=r.un;lia
def xu:TA:=fun _ H Q=>Q [] H
def qt(ta:TE)(tr:TA):TA:=fun σ H Q=>ta σ H fun x H1=>tr σ H1 fun xs H2=>Q (x::xs) H2
end
section
variable{X:Cx}{e:Expr}{es:List Expr}{te:TE}{t:TA}{pos:Pos}
theorem mH:PA X [] xu:=fun _ _ _ _ H Q I h=>U1 ⟨[],H,I,.nil,h⟩
theorem ju(ha:PE X e te)(hr:PA X es t)(hs:starEach (e::es) X.env=(false,eval e X.env)::starEach es X.env:=by rfl):PA X (e::es) (qt te t):=by intro pos sV s σ H Q I h;rw[hs];show wpAny _ _ (spliced ((false,eval e X.env)::backTo pos (starEach es X.env))) _ _ s;refine WM (thn (ha sV s σ H _ I h) fun u s1 ⟨x,H1,I1,r1,q1⟩=>?_);exact thn (hr pos sV s1 σ H1 _ I1 q1) fun us s2 ⟨xs,H2,I2,r2,q2⟩=>⟨x::xs,H2,I2,.cons r1 r2,q2⟩
def OP(t:TA):TE:=fun σ H Q=>t σ H fun xs H1=>xs.length<=sizeLine/\∀p,H1 p=none->Q (.ref p) (upd H1 p (.tup xs))
def GS(t:TA):TE:=fun σ H Q=>t σ H fun xs H1=>xs.length<=sizeLine/\∀p,H1 p=none->Q (.ref p) (upd H1 p (.lst xs))
theorem LF{x1}(h:PA X es t):PE X (.Tuple es x1 pos) (OP t):=by intro sV s σ H Q I hq;refine wpAny_Tuple_spliced (thn (h pos sV s σ H _ I hq) fun us s1 ⟨xs,H1,I1,r,z,q⟩=>⟨by rw[<- r.length];exact z,?_⟩);have hf:H1 s1.heap.objs.size=none:=I1.hok.fresh (PU _);refine⟨.ref s1.heap.objs.size,upd H1 s1.heap.objs.size (.tup xs),I1.laid (t':=s1.toks) (fun b u e=>Ds _ e) (PU _) ?_,rfl,q _ hf⟩;exact⟨z,us,r,⟨_,To _ rfl,rfl,_,rfl⟩⟩
theorem Ck(h:PA X es t):PE X (.List es pos) (GS t):=by intro sV s σ H Q I hq;refine wpAny_List_spliced (thn (h pos sV s σ H _ I hq) fun us s1 ⟨xs,H1,I1,r,z,q⟩=>⟨by rw[<- r.length];exact z,?_⟩);have hf:H1 s1.heap.objs.size=none:=I1.hok.fresh (PU _);refine⟨.ref s1.heap.objs.size,upd H1 s1.heap.objs.size (.lst xs),I1.laid (t':=s1.toks) (fun b u e=>Ds _ e) (PU _) ?_,rfl,q _ hf⟩;exact⟨z,us,0,r,To _ rfl⟩
end
noncomputable abbrev Sp:=List V->Hp->VK->XK->Prop
noncomputable abbrev CXT:=List Env->Hp->Shared->XK->Value->Shared->Prop
structure t7(P:Program)(w:World)(K:Dp)(mg:Str->Option Value)(base:Heap)(A:Around)(outer:List Env)(s:Shared)(H:Hp):Prop where
 frames:A.frames=some outer
 mod:Mod K mg base
 bs:∀b o,base.get? b=some o->s.heap.get? b=some o/\H b=none
 bsz:base.objs.size<=s.heap.objs.size
 lI:s.heap.FunFrames base outer
 frf:∀b∈frs outer,H b=none
 hok:HOk P w H s.heap
 bare:AllBare s.gens
def CE(outer:List Env)(P:Program)(w:World)(H:Hp)(s:Shared)(Q:VK)(u:Value)(s':Shared):Prop:=
 ∃v H',s'.os=s.os/\AllBare s'.gens/\Un (frs outer) [] H H' s.heap s'.heap/\HOk P w H' s'.heap/\RelV v u/\Q v H'
def CR(CX:CXT)(outer:List Env)(P:Program)(w:World)(H:Hp)(s:Shared)(Q:VK)(E:XK)(r:Result)(s':Shared):Prop:=
 match r with
 |.ok (.ret u)=>CE outer P w H s Q u s'
 |.ok _=>False
 |.error e=>CX outer H s E e s'
structure aR(P:Program)(w:World)(K:Dp)(mg:Str->Option Value)(base:Heap)(CX:CXT)(k:Nat)(f:Addr)(fd:FuncData)(ps:List Str)(sp:Sp):Prop where
 len:∀vs H Q E,sp vs H Q E->vs.length=ps.length
 run:∀(A:Around) (outer:List Env) (s:Shared) (H:Hp) (args:Args) (us:List Value) (vs:List V) (Q:VK) (E:XK),aX k A->t7 P w K mg base A outer s H->BindsTo s fd args (ps.zip us)->Vals vs us->sp vs H Q E ->
  codeAny (model P w) A (.call (.ref f) args) (CR CX outer P w H s Q E) s
theorem t7.in1{P:Program}{w:World}{K:Dp}{mg:Str->Option Value}{base:Heap}{A:Around}{outer:List Env}{s:Shared}{H:Hp}(e:t7 P w K mg base A outer s H) :
  t7 P w K mg base A.in1 outer s H:=⟨e.frames,e.mod,e.bs,e.bsz,e.lI,e.frf,e.hok,e.bare⟩
section
variable{X:Cx}{sV:List (Addr×Obj)}{σ:St}{H:Hp}{s s':Shared}
theorem Inv.OQ(I:Inv X sV σ H s):t7 X.prog X.w X.K X.mg X.base X.A X.stack s H:=
 ⟨I.ok.frames,I.ok.mod,I.bs,Tq I.ok.bsz I.sz,I.stack,I.yS,I.hok,I.bare⟩
theorem Inv.after{Q:VK}{u:Value}(I:Inv X sV σ H s)(h:CE X.stack X.prog X.w H s Q u s'):EP X sV σ Q u s':=by obtain⟨v,H',os,bare,un,hok,r,q⟩:=h;obtain⟨hh,g,d,t,os'⟩:=s';obtain rfl:os'=s.os:=os;exact⟨v,H',I.call (h':=hh) (g':=g) (d':=d) (t':=t) (ch:=[]) un hok bare (fun b z=>absurd z (by simp)),r,q⟩
end
def mJ(sp:Sp)(dvs:List V)(E:XK)(t:TA):TE:=fun σ H Q=>t σ H fun vs H1=>sp (vs++dvs) H1 Q E
def Binds(K:Dp)(fd:FuncData)(ps:List Str)(ds:List Value):Prop:=
 ∀(s:Shared) (us:List Value),K.In s.heap->(us++ds).length=ps.length->BindsTo s fd ⟨us,[]⟩ (ps.zip (us++ds))
theorem Binds.all{K:Dp}{fd:FuncData}{ps:List Str}(h:∀us:List Value,us.length=ps.length->bindArgs fd ⟨us,[]⟩=pure (ps.zip us)):Binds K fd ps []:=fun s us _ hl=>by rw[Uu]at hl ⊢;exact .of_eq (h us hl)
def Passes(CX:CXT)(X:Cx)(E:XK):Prop:=∀(sV:List (Addr×Obj)) (σ:St) (H:Hp) (s:Shared) (e:Value) (s':Shared),Inv X sV σ H s->CX X.stack H s E e s'->X.xe e s'
section
variable{X:Cx}{CX:CXT}{k:Nat}{f C:Addr}{fd:FuncData}{ps:List Str}{sp:Sp}{dvs:List V}{ds:List Value}{E:XK}{x m:Str}{p pos MX:Pos}{e o:Expr}{es:List Expr}{ta:TE}{t:TA}
theorem Cm{sV:List (Addr×Obj)}{σ:St}{H:Hp}{s:Shared}{Q:VK}{us:List Value}{vs:List V}(F:aR X.prog X.w X.K X.mg X.base CX k f fd ps sp)(hr:aX k X.A)(hb:Binds X.K fd ps ds)(hd:Vals dvs ds)(hx:Passes CX X E)
  (I:Inv X sV σ H s) (r:Vals vs us) (h:sp (vs++dvs) H Q E):wpAny (model X.prog X.w) X.A (call (.ref f) us) (EP X sV σ Q) X.xe s:=by
 have r2:Vals (vs++dvs) (us++ds):=r.append hd;have hl:(us++ds).length=ps.length:=by rw[<- r2.length];exact F.len _ _ _ _ h
 refine wpAny_call (codeAny_mono (F.run X.A X.stack s H ⟨us,[]⟩ (us++ds) (vs++dvs) Q E hr I.OQ (hb s us I.kIn hl) r2 h) fun r s' hq=>?_);cases r with
 |error e=>exact hx sV σ H s e s' I hq
 |ok fl=>
  cases fl with
  |ret u=>exact I.after hq
  |next=>exact T8 hq
  |brk=>exact T8 hq
  |cont=>exact T8 hq
theorem l7(F:aR X.prog X.w X.K X.mg X.base CX k f fd ps sp)(hr:aX k X.A)(hg:Gl X x)(hm:X.mg x=some (.ref f))(hk:Ut X.K (.ref f)=true)(hb:Binds X.K fd ps ds)(hd:Vals dvs ds)(hx:Passes CX X E)
  (ha:PA X (e::es) t) (Qu:(x == ("__debug__" : Str))=false:=by decide) (he:starEach (e::es) X.env=(false,eval e X.env)::starEach es X.env:=by rfl) (Fd:(backTo pos (starEach es X.env)).any (·.1)=false:=by rfl) :
  PE X (.Call (.Name x p) (e::es) [] pos) (mJ sp dvs E t):=by
 intro sV s σ H Q I h;refine wpAny_Call_Name_kw (yT I hg hm ?_ Qu);refine PySem.W.callWith_K (h₀:=X.base) I.ok.mod.kin hk (thn (ha pos sV s σ H _ I h) fun us s1 ⟨vs,H1,I1,r,q⟩=>⟨I1.kIn,?_⟩) he Fd;exact Cm F hr hb hd hx I1 r q
end
section
variable{x:Str}{v:Value}
structure ak(N P:List Str)(sc:Scope):Prop where
 kind:sc.kind=.function
 co:sc.isCoroutine=false
 gen:sc.isGenerator=false
 nd:N.Nodup
 pre:N.take P.length=P
 par:∀x∈P,sc.names.lookup x=some .local\/sc.names.lookup x=some .cell
 LG:∀y∈sc.names,y.2≠.free
theorem qu{kindOf:Str->Option NameKind}:∀{binds:List (Str×Value)} {m:Str->Option Value},(∀v,(x,v)∉binds)->bindL kindOf binds m x=m x
 |[],_,_=>rfl
 |(n,v)::r,m,h=>by
  unfold bindL;rw[qu fun w hw=>h w (gc _ hw)];split
  ·have:x≠n:=by rintro rfl;exact h v gV
   simp[this]
  ·rfl
theorem qv{kindOf:Str->Option NameKind}:∀{binds:List (Str×Value)} {m:Str->Option Value},(∀v,(x,v)∉binds)->bindC kindOf binds m x=m x
 |[],_,_=>rfl
 |(n,v)::r,m,h=>by
  unfold bindC;rw[qv fun w hw=>h w (gc _ hw)];split
  ·rfl
  ·have:x≠n:=by rintro rfl;exact h v gV
   simp[this]
theorem qw{kindOf:Str->Option NameKind}:∀{P:List Str} {vs:List Value} {i:Nat} {m:Str->Option Value},P.Nodup->P[i]?=some x->vs[i]?=some v->kindOf x=some .local ->
  bindL kindOf (P.zip vs) m x=some v
 |[],_,_,_,_,h,_,_=>by simp at h
 |_::_,[],_,_,_,_,h,_=>by simp at h
 |p::P,w::vs,0,m,nd,h1,h2,hk=>by simp at h1 h2;subst h1;subst h2;show bindL kindOf ((p,w)::P.zip vs) m p=_;unfold bindL;rw[qu fun v hv=>(TH.mp nd).1 (UY hv).1,if_pos hk];simp
 |p::P,w::vs,i+1,m,nd,h1,h2,hk=>by show bindL kindOf ((p,w)::P.zip vs) m x=_;unfold bindL;exact qw (i:=i) (TH.mp nd).2 (by simpa using h1) (by simpa using h2) hk
theorem qx{kindOf:Str->Option NameKind}:∀{P:List Str} {vs:List Value} {i:Nat} {m:Str->Option Value},P.Nodup->P[i]?=some x->vs[i]?=some v->kindOf x≠some .local ->
  bindC kindOf (P.zip vs) m x=some v
 |[],_,_,_,_,h,_,_=>by simp at h
 |_::_,[],_,_,_,_,h,_=>by simp at h
 |p::P,w::vs,0,m,nd,h1,h2,hk=>by simp at h1 h2;subst h1;subst h2;show bindC kindOf ((p,w)::P.zip vs) m p=_;unfold bindC;rw[qv fun v hv=>(TH.mp nd).1 (UY hv).1,if_neg hk];simp
 |p::P,w::vs,i+1,m,nd,h1,h2,hk=>by show bindC kindOf ((p,w)::P.zip vs) m x=_;unfold bindC;exact qx (i:=i) (TH.mp nd).2 (by simpa using h1) (by simpa using h2) hk
noncomputable def start(N:List Str)(vs:List V):St:=vs.map some++S5 (N.length-vs.length) none
noncomputable def j4(CX:CXT)(P:Program)(w:World)(K:Dp)(mg:Str->Option Value)(base:Heap)(N:List Str)(qual:Str)(scope:Scope)(f:Addr)(cd:Value)(A:Around)(outer:List Env)(s:Shared)(H:Hp)(E:XK):Cx where
 prog:=P
 w:=w
 K:=K
 mg:=mg
 base:=base
 A:=A.deeper (envOfC qual scope s.heap.objs.size f cd)
 N:=N
 s₀:=s
 H₀:=H
 env:=envOfC qual scope s.heap.objs.size f cd
 outer:=outer
 stack:=envOfC qual scope s.heap.objs.size f cd::outer
 ex:=[]
 calm:=true
 fn:=fun _=>true
 pn:=[]
 xe:=fun e s'=>wpAny (model P w) (A.deeper (envOfC qual scope s.heap.objs.size f cd)) (leaving (envOfC qual scope s.heap.objs.size f cd) e) (fun _ s''=>CX outer H s E e s'') (fun e' s''=>CX outer H s E e' s'') s'
theorem t8{sc:Scope}{n:Nat}(h:sc.names.lookup x=some .cell):∃c,(cellsFrom n sc.names []).lookup x=some c:=by have q:=V7 sc.names n [] (.inl h);exact Option.isSome_iff_exists.mp q
theorem qy{CX:CXT}{P:Program}{w:World}{K:Dp}{mg:Str->Option Value}{base:Heap}{N ps:List Str}{qual:Str}{scope:Scope}{f:Addr}{cd:Value}{A:Around}{outer:List Env}{s s1:Shared}{H:Hp}{E:XK}{us:List Value}{vs:List V}
  (S:ak N ps scope) (hd:A.handled=none) (e0:t7 P w K mg base A outer s H) (hl:vs.length=ps.length) (r:Vals vs us)
  (x:InCallC s s.heap.objs.size (bindL (envOfC qual scope s.heap.objs.size f cd).kindOf (ps.zip us) fun _=>none) (cellsFrom (s.heap.objs.size+1) scope.names []) (bindC (envOfC qual scope s.heap.objs.size f cd).kindOf (ps.zip us) fun _=>none) s1) :
  Inv (j4 CX P w K mg base N qual scope f cd A outer s H E) [] (start N vs) H s1:=by
 have Fd:ps.length<=N.length:=by have:=congrArg List.length S.pre;rw[Uo]at this;lia
 obtain⟨h1,tk,rfl,hk⟩:=x.done;have noA:∀b:Addr,b∉(j4 CX P w K mg base N qual scope f cd A outer s H E).ex:=fun b z=>absurd (show b∈([]:List Addr) from z) (by simp);refine ⟨⟨e0.mod,S.kind,rfl,rfl,PU _,fun y z c h1 h2=>?_,fun y hy=>?_,fun y c _ h=>?_,fun _=>hd,Around.frames_deeper e0.frames,.inr ⟨rfl,rfl⟩,fun b z=>absurd z (noA b),e0.bs,e0.bsz,fun b _ _=>noA b,fun b z=>absurd z (noA b),e0.lI,e0.frf⟩,
  rfl,e0.bare,Un.kept hk,⟨_,x.toInCall.ns,fun i y v h1 h2 h3=>?_⟩,fun y c h=>⟨_,x.cell y c h⟩,e0.hok.fresh (PU _),fun y c h=>?_,fun p hp=>absurd (show p∈([]:List (Addr×Obj)) from hp) (by simp),e0.hok.kept hk,?_⟩
 ·exact name_of_addr x.apart (PySem.mem_of_lookup h1) (PySem.mem_of_lookup h2)
 ·have hy:scope.names.lookup y=some .cell\/scope.names.lookup y=some .free:=hy;rcases hy with hy | hy
  ·exact t8 hy
  ·exact absurd rfl (S.LG _ (PySem.mem_of_lookup hy))
 ·exact VP (x.above y c (PySem.mem_of_lookup h))
 ·have hi:i<vs.length:=by
   unfold start at h2;by_cases hi:i<vs.length
   ·exact hi
   ·rw[TZ (by simpa using hi)]at h2;rw[Uq]at h2;split at h2<;>cases h2
  have ha:vs[i]?=some v:=by
   unfold start at h2;rw[Tn (by simpa using hi),TJ]at h2;cases e:vs[i]? with
   |none=>rw[e]at h2;cases h2
   |some a=>rw[e]at h2;cases h2;rfl
  obtain⟨u,hu,rv⟩:=r.get ha;have hp:ps[i]?=some y:=by rw[<- S.pre,Vm (by lia)];exact h1
  have ndP:ps.Nodup:=by rw[<- S.pre];exact S.nd.sublist (List.take_sublist _ _)
  refine⟨u,rv,?_⟩;rcases S.par y (UZ hp) with k | k
  ·exact .inl ⟨k,qw ndP hp hu k⟩
  ·obtain⟨c,e⟩:=t8 (n:=s.heap.objs.size+1) k;refine .inr ⟨.inl k,c,e,?_⟩;have q:=x.cell y c e;rw[qx ndP hp hu (by show scope.names.lookup y≠_;rw[k];decide)]at q;exact q
 ·exact e0.hok.fresh (VP (x.above y c (PySem.mem_of_lookup h)))
 ·unfold start;show _=N.length;rw[Tg,Dk,VE]
  lia
theorem Cn{CX:CXT}{P:Program}{w:World}{K:Dp}{mg:Str->Option Value}{base:Heap}{k:Nat}{f:Addr}{name qual:Str}{params:Arguments}{body:List Stmt}{scope:Scope}{dV kV doc pm cdv ct oc:Value}{an od:Option Addr}
  {osl:Array (Option Value)} {N ps:List Str} {sp:Sp} (lk:K.lookup f=some ⟨oc,od,.func (TR name qual params body scope dV kV doc pm an cdv ct),osl⟩) (J2:Vk K cdv qual=true) (S:ak N ps scope)
  (len:∀vs H Q E,sp vs H Q E->vs.length=ps.length)
  (hbody:∀ (A:Around) (outer:List Env) (s:Shared) (H:Hp) (vs:List V) (Q:VK) (E:XK),aX k (A.deeper (envOfC qual scope s.heap.objs.size f cdv))→sp vs H Q E →
   ∃t,PSs (j4 CX P w K mg base N qual scope f cdv A outer s H E) body t/\t { nx:=fun _ H'=>Q .non H',rt:=Q } (start N vs) H) :
  aR P w K mg base CX (k+1) f (TR name qual params body scope dV kV doc pm an cdv ct) ps sp:=by
 refine⟨len,fun A outer s H args us vs Q E hr e0 hb r hsp=>?_⟩;have hl:=len _ _ _ _ hsp;have KX:K.In s.heap:=e0.mod.kin.keeps fun b o e=>(e0.bs b o e).1;have lim:s.heap.NoLimit:=e0.mod.nolimit.keeps fun b o e=>(e0.bs b o e).1;have hkind:∀y∈ps.zip us,scope.names.lookup y.1=some .local\/(scope.names.lookup y.1=some .cell/\((cellsFrom (s.heap.objs.size+1) scope.names []).lookup y.1).isSome=true):=fun⟨n,v⟩ hy=>by
  rcases S.par n (UY hy).1 with q | q
  ·exact .inl q
  ·exact .inr ⟨q,V7 _ _ _ (.inl q)⟩
 refine codeAny_call_function hr.depth (KX _ _ lk) rfl S.co S.gen rfl (PySem.W.codeRec_of KX J2) (hb _ _ _ _ ?_);refine wpAny_newFunctionEnv_cells S.kind hkind fun env he s1 x=>?_;subst he;refine⟨lim.keeps x.toInCall.keep,codeAny_func ?_⟩;obtain⟨t,ht,hq⟩:=hbody A outer s H vs Q E (hr.deeper _) hsp;have I:Inv (j4 CX P w K mg base N qual scope f cdv A outer s H E) [] (start N vs) H s1:=qy S hr.hd e0 hl r x;refine wpAny_mono (ht [] s1 (start N vs) H _ I hq) (fun fl s' hs=>?_) fun e s' hs=>hs;have Fp:∀{σ':St} {H':Hp} {v:V} {u:Value},Inv (j4 CX P w K mg base N qual scope f cdv A outer s H E) [] σ' H' s'->RelV v u->Q v H'->CE outer P w H s Q u s':=
  fun {σ' H' v u} J rv q=>⟨v,H',J.os,J.bare,J.base,J.hok,rv,q⟩
 cases fl with
 |ret u=>obtain⟨v,σ',H',J,rv,q⟩:=hs;exact Fp J rv q
 |next=>obtain⟨σ',H',J,q⟩:=hs;exact Fp (v:=V.non) (u:=Xo) J rfl q
 |brk=>obtain⟨_,_,_,q⟩:=hs;exact T8 q
 |cont=>obtain⟨_,_,_,q⟩:=hs;exact T8 q
end
section
variable{X:Cx}{x:Str}{p pos:Pos}{e:Expr}{es:List Expr}{t:TA}{id T:String}{r:List V->Hp->VK->Prop}
def tCB(r:List V->Hp->VK->Prop)(t:TA):TE:=fun σ H Q=>t σ H fun vs H1=>r vs H1 Q
theorem mK(hc:dM X (.builtin id) r)(hg:Gl X x)(hm:X.mg x=none)(hv:bootBuiltins x=some (.builtin id))(ha:PA X (e::es) t)(hn:x ≠ "__name__" := by decide)(Qu:(x == ("__debug__" : Str))=false:=by decide)
  (he:starEach (e::es) X.env=(false,eval e X.env)::starEach es X.env:=by rfl) (Fd:(backTo pos (starEach es X.env)).any (·.1)=false:=by rfl):PE X (.Call (.Name x p) (e::es) [] pos) (tCB r t):=by
 intro sV s σ H Q I h;refine wpAny_Call_Name_kw (cW I hg hm hv ?_ hn Qu);exact PyProof.Rows.callWith_builtin1 (thn (ha pos sV s σ H _ I h) fun us s1 ⟨vs,H1,I1,r1,q1⟩=>hc sV s1 σ H1 vs us Q I1 r1 q1) he Fd
theorem qz(hc:dM X (.type T) r)(hg:Gl X x)(hm:X.mg x=none)(hv:bootBuiltins x=some (.type T))(ha:PA X (e::es) t)(hn:x ≠ "__name__" := by decide)(Qu:(x == ("__debug__" : Str))=false:=by decide)
  (he:starEach (e::es) X.env=(false,eval e X.env)::starEach es X.env:=by rfl) (Fd:(backTo pos (starEach es X.env)).any (·.1)=false:=by rfl):PE X (.Call (.Name x p) (e::es) [] pos) (tCB r t):=by
 intro sV s σ H Q I h;refine wpAny_Call_Name_kw (cW I hg hm hv ?_ hn Qu);exact Ub (thn (ha pos sV s σ H _ I h) fun us s1 ⟨vs,H1,I1,r1,q1⟩=>hc sV s1 σ H1 vs us Q I1 r1 q1) he Fd
end
noncomputable def ixN(n:Nat)(i:Int):Option Nat:=if 0<=i then (if i<n then some i.toNat else none) else if -(n:Int)<=i then some (i+n).toNat else none
noncomputable def atI{α:Type}(xs:List α)(i:Int):Option α:=(ixN xs.length i).bind fun j=>xs[j]?
theorem y9{n:Nat}{i:Int}{j:Nat}(h:ixN n i=some j):seqIndex? i n=some j/\j<n/\-(n:Int)<=i/\i<n:=by
 unfold ixN at h;by_cases h0:0<=i
 ·rw[if_pos h0]at h;by_cases h1:i<n
  ·rw[if_pos h1]at h;have e:i.toNat=j:=Option.some.inj h;exact⟨by rw[seqIndex_of h0 h1,e],by lia,by lia,h1⟩
  ·rw[if_neg h1]at h;cases h
 ·rw[if_neg h0]at h;by_cases h1:-(n:Int)<=i
  ·rw[if_pos h1]at h;have e:(i+n).toNat=j:=Option.some.inj h;exact⟨by rw[seqIndex_neg (by lia) h1,e],by lia,h1,by lia⟩
  ·rw[if_neg h1]at h;cases h
theorem y_{α:Type}{xs:List α}{i:Int}{v:α}(h:atI xs i=some v):∃j,seqIndex? i xs.length=some j/\xs[j]?=some v/\j<xs.length/\-(xs.length:Int)<=i/\i<xs.length:=by
 unfold atI at h;cases e:ixN xs.length i with
 |none=>rw[e]at h;cases h
 |some j=>rw[e]at h;obtain⟨h1,h2,h3,h4⟩:=y9 e;exact⟨j,h1,h,h2,h3,h4⟩
def rX(b:Expr):Prop:=∀o i,subscripted b false o i=operate [o,i] (getItem o i)
def IxR(X:Cx)(r:R2):Prop:=
 ∀(value slice:Expr) (sV:List (Addr×Obj)) (s:Shared) (σ:St) (H:Hp) (x y:V) (v u:Value) (Q:VK),Inv X sV σ H s->RelV x v->RelV y u->r x y H Q ->
  subscripted slice false v u=operate [v,u] (getItem v u)->wpAny (model X.prog X.w) X.A (subscriptTail value slice v u) (EP X sV σ Q) X.xe s
def MtR(X:Cx)(id:String)(r:V->List V->Hp->VK->Prop):Prop:=
 ∀(sV:List (Addr×Obj)) (s:Shared) (σ:St) (H:Hp) (x:V) (xs:List V) (v:Value) (us:List Value) (Q:VK),Inv X sV σ H s->RelV x v->Vals xs us->r x xs H Q ->
  wpAny (model X.prog X.w) X.A (call (.builtin id) (v::us)) (EP X sV σ Q) X.xe s
section
variable{X:Cx}{a b:Expr}{ta tb:TE}{pos:Pos}
section
variable{sV:List (Addr×Obj)}{s:Shared}{σ:St}{H:Hp}
theorem IxR.or{r r':R2}(h:IxR X r)(h':IxR X r'):IxR X (fun x y H Q=>r x y H Q\/r' x y H Q):=by
 intro value slice sV s σ H x y v u Q I rx ry q hs;rcases q with q | q
 ·exact h value slice sV s σ H x y v u Q I rx ry q hs
 ·exact h' value slice sV s σ H x y v u Q I rx ry q hs
theorem JE{r:R2}(hr:IxR X r)(ha:PE X a ta)(hb:PE X b tb)(hs:rX b):PE X (.Subscript a b pos) (tOp r ta tb):=by intro sV s σ H Q I h;exact Subscript_ (Lp ha hb I h fun v u s2 x y H2 I2 rx ry q=>hr a b sV s2 σ H2 x y v u Q I2 rx ry q (hs _ _))
def LH(K:Dp):R2:=fun x y H Q=>∃p xs i v,x=.ref p/\y=.int i/\SqL K H p xs/\atI xs i=some v/\Q v H
def OR(K:Dp):R2:=fun x y H Q=>∃p xs i v,x=.ref p/\y=.int i/\SqT K H p xs/\atI xs i=some v/\Q v H
theorem za:IxR X (LH X.K):=by
 intro value slice sV s σ H x y v u Q I rx ry h hs;obtain⟨p,xs,i,z,rfl,rfl,hq,he,q⟩:=h;cases rx;obtain⟨t,rfl⟩:=ry;obtain⟨its,r,pl,hz⟩:=I.list hq;obtain⟨j,h1,h2,h3,h4,h5⟩:=y_ he;obtain⟨w,ew,rw'⟩:=r.get h2;have hl:=r.length;have hn:=mG;have Fp:EP X sV σ Q w s:=⟨z,H,I,rw',q⟩
 by_cases h0:0<=i
 ·have hj:i.toNat=j:=by
   rw[seqIndex_of h0 h5]at h1;exact Option.some.inj h1
  exact item_listR pl.isList h0 (by lia) (by rw[hj];simpa using ew) Fp hs
 ·have hj:(i+(its.toArray.size:Int)).toNat=j:=by
   rw[seqIndex_neg (by lia) h4]at h1;rw[S6,<- hl];exact Option.some.inj h1
  exact subscriptTail_builtinR (x:=w) pl.isList.typeIs slot_list_getitem.lookup
   (wpAny_getItem_list_neg (Q:=fun r s'=>r=w/\EP X sV σ Q r s') pl.isList (by lia) (by rw[S6]<;>lia) (by lia) (by rw[hj];simpa using ew) ⟨rfl,Fp⟩) hs
theorem LI:IxR X (OR X.K):=by
 intro value slice sV s σ H x y v u Q I rx ry h hs;obtain⟨p,xs,i,z,rfl,rfl,hq,he,q⟩:=h;cases rx;obtain⟨t,rfl⟩:=ry;obtain⟨its,r,pl,hz⟩:=I.tuple hq;obtain⟨j,h1,h2,h3,h4,h5⟩:=y_ he;obtain⟨w,ew,rw'⟩:=r.get h2;have hl:=r.length;have hn:=mG;have Fp:EP X sV σ Q w s:=⟨z,H,I,rw',q⟩
 exact subscriptTail_builtinR (x:=w) pl.typeIs slot_tuple_getitem.lookup
  (getItem_tuple (j:=j) (Q:=fun r s'=>r=w/\EP X sV σ Q r s') pl (by lia) (by lia) (by rw[S6,<- hl];exact h1) (by simpa using ew) ⟨rfl,Fp⟩) hs
theorem xw(its:List Value)(n j:Nat)(u:Value):T5 (·.setIfInBounds j u) { cls:=.type "list",data:=.seq its.toArray n }={ cls:=.type "list",data:=.seq (its.set j u).toArray n }:=by simp[T5]
theorem Inv.lst{sV:List (Addr×Obj)}{σ:St}{H:Hp}{s:Shared}{p:Addr}{xs:List V}(I:Inv X sV σ H s)(h:H p=some (.lst xs)) :
  ∃(its:List Value) (n:Nat),Vals xs its/\s.heap.get? p=some { cls:=.type "list",data:=.seq its.toArray n }/\xs.length<=sizeLine:=by
 obtain⟨z,its,n,r,e⟩:=I.hok p _ h;exact⟨its,n,r,e,z⟩
theorem Inv.LJ{p:Addr}{xs ys:List V}{its its':List Value}{n n':Nat}{f:Obj->Obj}(I:Inv X sV σ H s)(h:H p=some (.lst xs))
  (ho:s.heap.get? p=some { cls:=.type "list",data:=.seq its.toArray n }) (hf:f { cls:=.type "list",data:=.seq its.toArray n }={ cls:=.type "list",data:=.seq its'.toArray n' }) (r:Vals ys its') (hz:ys.length<=sizeLine) (t:Nat) :
  Inv X sV σ (upd H p (.lst ys)) { s with heap:=s.heap.update p f,toks:=t }:=by
 have e:(s.heap.update p f).get? p=some { cls:=.type "list",data:=.seq its'.toArray n' }:=by rw[Vb f ho (by rw[hf]<;>rfl),hf]
 refine I.write (x:=p) (e:=p) (by rw[h];trivial) (.inl rfl) (fun b u hb q=>(V8 _ _ (Ne.symm hb)).trans q) ⟨_,e⟩ ?_;exact⟨hz,its',n',r,e⟩
def JF:V->V->V->Hp->(Hp->Prop)->Prop:=fun o i v H Q=>∃p xs k j,o=.ref p/\i=.int k/\H p=some (.lst xs)/\ixN xs.length k=some j/\Q (upd H p (.lst (xs.set j v)))
theorem set_list:OI X JF:=by
 intro sV s σ H o i v ov iv u Q I ro ri rv h;obtain⟨p,xs,k,j,rfl,rfl,hp,hj,q⟩:=h;cases ro;obtain⟨t,rfl⟩:=ri;obtain⟨its,n,r,ho,hz⟩:=I.lst hp;obtain⟨h1,h2,h3,h4⟩:=y9 hj;have hl:=r.length;have hn:=mG;have I':Inv X sV σ (upd H p (.lst (xs.set j v))) { s with heap:=s.heap.update p (T5 (·.setIfInBounds j u)) }:=
  I.LJ hp ho (xw its n j u) (r.set rv j) (by rw[T4];exact hz) s.toks
 by_cases h0:0<=k
 ·have hk:k.toNat=j:=by
   rw[seqIndex_of h0 h4]at h1;exact Option.some.inj h1
  exact PySem.W.ki_setAt ho h0 (by lia) (by rw[S6,<- hl];exact h4) (by rw[hk];exact⟨_,I',q⟩)
 ·have hk:(k+(its.toArray.size:Int)).toNat=j:=by
   rw[seqIndex_neg (by lia) h3]at h1;rw[S6,<- hl];exact Option.some.inj h1
  exact PySem.W.ki_setBack ho (by lia) (by rw[S6,<- hl];exact h3) (by lia) (by rw[hk];exact⟨_,I',q⟩)
theorem rY:dM X (.builtin "len") (fun xs H Q=>∃p ys,xs=[.ref p]/\(SqL X.K H p ys\/SqT X.K H p ys)/\Q (.int ys.length) H):=by
 intro sV s σ H xs us Q I r h;obtain⟨p,ys,rfl,hq,q⟩:=h;obtain⟨u,rfl,rx⟩:=vals1 r;cases rx;have hn:=mG;rcases hq with hq | hq
 ·obtain⟨its,r',pl,hz⟩:=I.list hq;have D9:=r'.length;exact Calls.call_len_list pl.isList (by simp only[S6]<;>lia) ⟨.int ys.length,H,I.tok _,⟨s.toks+1,by rw[S6,D9]⟩,q⟩
 ·obtain⟨its,r',pl,hz⟩:=I.tuple hq;have D9:=r'.length;exact len_tuple pl (by simp only[S6]<;>lia) ⟨.int ys.length,H,I.tok _,⟨s.toks+1,by rw[S6,D9]⟩,q⟩
theorem rZ:dM X (.type "list") (fun xs H Q=>∃p ys,xs=[.ref p]/\(SqL X.K H p ys\/SqT X.K H p ys)/\∀l,H l=none->Q (.ref l) (upd H l (.lst ys))):=by
 intro sV s σ H xs us Q I r h;obtain⟨p,ys,rfl,hq,q⟩:=h;obtain⟨u,rfl,rx⟩:=vals1 r;cases rx;have Fp:∀(its:List Value),Vals ys its->ys.length<=sizeLine->∀(h':Heap) (c':Nat),(∀b o',s.heap.get? b=some o'->h'.get? b=some o') ->
   h'.get? s.heap.objs.size=some { cls:=.type "list",dict:=none,data:=.seq its.toArray c',slots:=#[] }->EP X sV σ Q (.ref s.heap.objs.size) { s with heap:=h' }:=fun its r' hz h' c' kp e=>
  ⟨.ref s.heap.objs.size,_,I.laid (t':=s.toks) kp (PU _) (show aU X.prog X.w _ h' _ (.lst ys) from ⟨hz,its,c',r',e⟩),rfl,q _ (I.hok.fresh (PU _))⟩
 rcases hq with hq | hq
 ·obtain⟨its,r',pl,hz⟩:=I.list hq;have D9:=r'.length;obtain⟨o,ho,hc,n,hd⟩:=pl.isList;exact call_list_seq p (.inl rfl) ho hc hd (fun h' c' kp e=>Fp its r' hz h' c' kp e) (by simp only[S6]<;>lia)
 ·obtain⟨its,r',pl,hz⟩:=I.tuple hq;have D9:=r'.length;obtain⟨o,ho,hc,n,hd⟩:=pl;exact call_list_seq p (.inr rfl) ho hc hd (fun h' c' kp e=>Fp its r' hz h' c' kp e) (by simp only[S6]<;>lia)
theorem p8:dM X (.type "tuple") (fun xs H Q=>∃p ys,xs=[.ref p]/\((SqL X.K H p ys/\∀l,H l=none->Q (.ref l) (upd H l (.tup ys)))\/(SqT X.K H p ys/\Q (.ref p) H))):=by
 intro sV s σ H xs us Q I r h;obtain⟨p,ys,rfl,h⟩:=h;obtain⟨u,rfl,rx⟩:=vals1 r;cases rx;rcases h with⟨hq,q⟩ | ⟨hq,q⟩
 ·obtain⟨its,r',pl,hz⟩:=I.list hq;have D9:=r'.length;refine call_tuple_list pl.isList (fun h' kp=>?_) (by simp only[S6]<;>lia);have I1:Inv X sV σ H { s with heap:=h' }:=I.kept (t':=s.toks) kp;have I2:Inv X sV σ (upd H h'.objs.size (.tup ys)) { s with heap:=h'.push { cls:=.type "tuple",data:=.seq its.toArray } }:=
   I1.laid (t':=s.toks) (fun b o e=>Ds _ e) (PU _) (show aU X.prog X.w _ _ _ (.tup ys) from ⟨hz,its,r',IsTup.new _ _⟩)
  exact⟨.ref h'.objs.size,_,I2,rfl,q _ (I1.hok.fresh (PU _))⟩
 ·obtain⟨its,r',pl,hz⟩:=I.tuple hq;exact call_tuple_same pl ⟨.ref p,H,I,rfl,q⟩
def tyV(K:Dp)(T:String)(x:V)(H:Hp):Prop:=match x with
 |.str _=>T = "str"
 |.int _=>T = "int"
 |.ref p=>(T = "list" /\ ∃xs,SqL K H p xs)\/(T = "tuple" /\ ∃o,K.lookup p=some o/\o.cls=.type "tuple" /\ o.dict=none) \/
   (T = "dict" /\ ((∃kvs,H p=some (.dK kvs))\/∃kvs,H p=some (.dT kvs)))\/(T = "set" /\ ∃S n,H p=some (.set S n))
 |_=>False
theorem LK{T:String}{x:V}{v:Value}(I:Inv X sV σ H s)(r:RelV x v)(ty:tyV X.K T x H) :
  s.TypeIs v T/\∀a,v=.ref a->∃ob,s.heap.get? a=some ob/\ob.dict=none:=by
 cases x with
 |str z=>obtain⟨t,rfl⟩:=r;cases (show T = "str" from ty);exact⟨typeIs_str s z t,fun _ e=>nomatch e⟩
 |int i=>obtain⟨t,rfl⟩:=r;cases (show T = "int" from ty);exact⟨typeIs_int s i t,fun _ e=>nomatch e⟩
 |ref p=>
  cases r;rcases ty with⟨rfl,xs,hq⟩ | ⟨rfl,o,hk,hc,hd⟩ | ⟨rfl,hk⟩ | ⟨rfl,S,n,hk⟩
  ·obtain⟨its,_,pl,_⟩:=I.list hq;refine⟨pl.isList.typeIs,fun a e=>?_⟩;cases e;obtain⟨o,n,e,c,hd,_⟩:=pl;exact⟨o,e,hd⟩
  ·refine⟨⟨o,I.kIn p o hk,hc⟩,fun a e=>?_⟩;cases e;exact⟨o,I.kIn _ o hk,hd⟩
  ·have z:∃o,s.heap.get? p=some o/\o.ExactDict:=by
    rcases hk with⟨kvs,hk⟩ | ⟨kvs,hk⟩
    ·obtain⟨_,_,_,_,o,_,_,e,ex,_⟩:=I.hok p _ hk;exact⟨o,e,ex⟩
    ·obtain⟨_,_,_,_,o,_,_,e,ex,_⟩:=I.hok p _ hk;exact⟨o,e,ex⟩
   obtain⟨o,e,ex⟩:=z;refine⟨⟨o,e,ex.1⟩,fun a e2=>?_⟩;cases e2;exact⟨o,e,ex.2.1⟩
  ·obtain⟨o,_,_,_,e,ex,_⟩:=I.hok p _ hk;refine⟨⟨o,e,ex.1⟩,fun a e2=>?_⟩;cases e2;exact⟨o,e,ex.2.1⟩
 |_=>exact T8 ty
def tBM(K:Dp)(T:String)(r:V->List V->Hp->VK->Prop)(to:TE)(t:TA):TE:=fun σ H Q=>to σ H fun x H1=>tyV K T x H1/\t σ H1 fun xs H2=>r x xs H2 Q
variable{o e:Expr}{es:List Expr}{to:TE}{t:TA}{name:Str}{MX cpos:Pos}{T id:String}{r:V->List V->Hp->VK->Prop}
theorem zb(pa:PlainAttrs T)(slot:Slot T name id)(hty:typeOf (.builtin id)=pure (.type "method_descriptor"))(hm:MtR X id r)(ho:PE X o to)(ha:PA X (e::es) t)
  (Qp:attributeBase o name X.env (eval o X.env)=eval o X.env:=by rfl)
  (hfew:((backTo cpos (starEach (e::es) X.env)).all (fun x=>!x.1)&&(backToKw cpos (keywordEach [] X.env)).all (fun x=>x.1.isSome)
   && decide ((e::es).length+([]:List Keyword).length+(if ([]:List Keyword).isEmpty then 0 else 1)<30))=true:=by rfl)
  (Nb:(MX.endLine == cpos.line)=true:=by rfl) (hs:starEach (e::es) X.env=(false,eval e X.env)::starEach es X.env:=by rfl) (Ij:(backTo cpos (starEach es X.env)).any (·.1)=false:=by rfl) :
  PE X (.Call (.Attribute o name MX) (e::es) [] cpos) (tBM X.K T r to t):=by
 intro sV s σ H Q I h;refine wpAny_Call_method_late Qp hfew Nb rfl (thn (ho sV s σ H _ I h) fun v s1 ⟨x,H1,I1,r1,ty,q1⟩=>?_);obtain⟨h1,h2⟩:=LK I1 r1 ty;refine⟨T,id,pa,slot,hty,h1,h2,?_⟩;have hA:=ha cpos sV s1 σ H1 _ I1 q1;rw[hs]at hA ⊢;refine V9 (by show (false||(backTo cpos (starEach es X.env)).any (·.1))=false;rw[Ij]<;>rfl) (Wq ?_);exact thn hA fun us s2 ⟨vs,H2,I2,r2,q2⟩=>hm sV s2 σ H2 x vs v us Q I2 r1 r2 q2
end
end
def MtM(X:Cx)(id:String)(r:V->List V->Hp->VK->Prop):Prop:=
 ∀(sV:List (Addr×Obj)) (s:Shared) (σ:St) (H:Hp) (x:V) (xs:List V) (v:Value) (us:List Value) (Q:VK),Inv X sV σ H s->RelV x v->Vals xs us->r x xs H Q ->
  wpAny (model X.prog X.w) X.A (call (.builtin id) (v::us)) (EP X sV σ Q) X.xe s
theorem Vals.one:∀{x:V} {us:List Value},Vals [x] us->∃u,us=[u]/\RelV x u
 |_,_,.cons r .nil=>⟨_,rfl,r⟩
theorem Vals.eraseIdx:∀{xs:List V} {us:List Value} (i:Nat),Vals xs us->Vals (xs.eraseIdx i) (us.eraseIdx i)
 |_,_,_,.nil=>.nil
 |_,_,0,.cons _ t=>t
 |_,_,i+1,.cons r t=>.cons r (Vals.eraseIdx i t)
theorem Vals.rep{xs:List V}{us:List Value}(h:Vals xs us):∀k:Nat,Vals (S5 k xs).flatten (S5 k us).flatten
 |0=>.nil
 |k+1=>by rw[UJ,UJ,Uy,Uy];exact Vals.append h (Vals.rep h k)
theorem qA{α:Type}:∀(l:List α) (i:Nat),(l.eraseIdx i).length<=l.length
 |[],_=>PU _
 |_::_,0=>WL _
 |_::r,i+1=>Nat.succ_le_succ (qA r i)
theorem foldl_rep(its:List Value):∀(k:Nat) (tG:List Value),
  WY (fun x1 x2=>x1++x2) tG.toArray (S5 k its.toArray)=(tG++(S5 k its).flatten).toArray
 |0,tG=>by simp
 |k+1,tG=>by
  have e:tG.toArray++its.toArray=(tG++its).toArray:=by simp
  have e2:(tG++its)++(S5 k its).flatten=tG++(S5 (k+1) its).flatten:=by rw[UJ,Uy,VA]
  rw[<- e2,<- foldl_rep its k (tG++its),<- e,UJ,Vx]
section
variable{X:Cx}{sV:List (Addr×Obj)}{σ:St}{H:Hp}{s:Shared}{l b:Addr}{xs ys zs:List V}
theorem Inv.LL{its its':List Value}{n:Nat}{f:Array Value->Array Value}{t':Nat}(I:Inv X sV σ H s)(hH:H l=some (.lst xs))
  (e:s.heap.get? l=some { cls:=.type "list",data:=.seq its.toArray n }) (hf:f its.toArray=its'.toArray) (hv:Vals ys its') (hz:ys.length<=sizeLine) :
  Inv X sV σ (upd H l (.lst ys)) { s with heap:=s.heap.update l (T5 f),toks:=t' }:=by
 have q:=PySem.IsL.update e f;rw[hf]at q;refine I.write (x:=l) (e:=l) (by rw[hH];exact trivial) (.inl rfl) (fun b' u hb hu=>(V8 s.heap (T5 f) (Ne.symm hb)).trans hu) ⟨_,q⟩ ?_;exact⟨hz,its',_,hv,q⟩
theorem Inv.LM{its:List Value}{t':Nat}(I:Inv X sV σ H s)(hv:Vals ys its)(hz:ys.length<=sizeLine) :
  Inv X sV σ (upd H s.heap.objs.size (.lst ys)) { s with heap:=s.heap.push { cls:=.type "list",data:=.seq its.toArray },toks:=t' }:=
 I.laid (fun _ _ q=>Ds _ q) (PU _) ⟨hz,its,0,hv,To _ rfl⟩
theorem Inv.fresh(I:Inv X sV σ H s):H s.heap.objs.size=none:=I.hok.fresh (PU _)
theorem Inv.LN(I:Inv X sV σ H s)(hH:H l=some (.lst xs)):xs.length<=sizeLine/\∃(its:List Value) (n:Nat),Vals xs its/\xs.length=its.length/\s.heap.get? l=some { cls:=.type "list",data:=.seq its.toArray n }:=by obtain⟨z,its,n,r,e⟩:=I.hok l _ hH;exact⟨z,its,n,r,r.length,e⟩
theorem Co{n:Nat}(h:n<=sizeLine):VQ n=false:=by unfold VQ;exact decide_eq_false (by lia)
end
section
variable{X:Cx}
def r8:V->List V->Hp->VK->Prop:=fun x vs H Q=>∃l xs y,x=.ref l/\vs=[y]/\H l=some (.lst xs)/\xs.length<sizeLine/\Q .non (upd H l (.lst (xs++[y])))
theorem j5:MtM X "list.append" r8:=by
 intro sV s σ H x vs v us Q I rx rv h;obtain⟨l,xs,y,rfl,rfl,hH,hz,q⟩:=h;cases rx;obtain⟨u,rfl,ru⟩:=rv.one;obtain⟨z,its,n,r,hl,e⟩:=I.LN hH;refine call_meets F.slot_list_append ⟨_,e,rfl⟩ F.entry_list_append (F.args_list_append_2 _ _) (PySem.list_append l its.toArray n u (by rw[S6];lia)) ⟨e,?_⟩;refine⟨.non,_,I.LL (its':=its++[u]) hH e (by simp) (r.append (.cons ru .nil)) ?_,rfl,q⟩;rw[Tg,UR]
 lia
def Cp:V->List V->Hp->VK->Prop:=fun x vs H Q=>∃l xs i k y,x=.ref l/\vs=[.int i]/\H l=some (.lst xs)/\-(2 ^ 63)<=i/\i<2 ^ 63/\seqIndex? i xs.length=some k/\xs[k]?=some y/\Q y (upd H l (.lst (xs.eraseIdx k)))
theorem Cq:MtM X "list.pop" Cp:=by
 intro sV s σ H x vs v us Q I rx rv h;obtain⟨l,xs,i,k,y,rfl,rfl,hH,h1,h2,hk,hy,q⟩:=h;cases rx;obtain⟨u,rfl,ru⟩:=rv.one;obtain⟨t,rfl⟩:=ru;obtain⟨z,its,n,r,hl,e⟩:=I.LN hH;obtain⟨w,hw,rw'⟩:=r.get hy;refine call_meets F.slot_list_pop ⟨_,e,rfl⟩ F.entry_list_pop (F.args_list_pop_2 _ _)
  (MeetsSeq.list_pop_at l its.toArray n i t k w (fitsIndex_both h1 h2) (by rw[S6,<- hl];exact hk) (by rw[<- Up];exact hw) (by rw[S6];lia)) ⟨e,?_⟩
 refine⟨y,_,I.LL (its':=its.eraseIdx k) hH e ?_ (r.eraseIdx k) ?_,rw',q⟩
 ·show its.toArray.eraseIdxIfInBounds k=(its.eraseIdx k).toArray;rw[List.eraseIdxIfInBounds_toArray]
 ·have:=qA xs k
  lia
theorem len_rep{α:Type}(xs:List α)(k:Nat):(S5 k xs).flatten.length=k*xs.length:=by
 induction k with
 |zero=>simp
 |succ k ih=>rw[UJ,Uy,Tg,ih,Nat.succ_mul,Nat.add_comm]
end
end L2
namespace Att
open PySem PySem.W PySem.Calls PyProof.Rows
theorem lN{P:Params}{h:Heap}:∀(ns:List Int) (vs:List Value),WellAll P h vs (ns.map WData.int)->IntsAre vs ns:=by
 intro ns
 induction ns with
 |nil=>intro vs w;rw[Wu]at w;cases w;exact .nil
 |cons n ns ih=>
  intro vs w;rw[eg]at w;cases w with
  |cons a b=>cases a;exact .cons _ _ (ih _ b)
theorem AU{l:OpenLaw}{n:Nat}(hn:l.most=some n){P:Params}{h:Heap}{args:List WData}{vals:List Value}
  (hpre:l.row.toRowW.claim.pre args=true) (hwl:WellAll P h vals args) :
  ∃a vs ns,vals=[Tz a]/\args=[WData.list (ns.map WData.int)]/\h.get? a=some { cls:=.type "list",data:=.seq vs.toArray }/\IntsAre vs ns/\ns.length<=n:=by
 have hsh:WShape.hasAll [] args [.list .int]=true:=(pre_splitW hpre).1;have hc:l.pre.holds [] { args:=args }=true:=(pre_splitW hpre).2;obtain⟨d,r,rfl,h1,h2⟩:=hasAllW_cons hsh;obtain rfl:=hasAllW_nil h2;obtain⟨xs,rfl,h3⟩:=hasW_list h1;obtain⟨ns,rfl⟩:=items_int h3;have D9:ns.length<=n:=by
  unfold OpenLaw.pre at hc;have h4:(WTm.not (.lt (.lit (.int (n:Int))) (.len (.arg 0)))).holds [] { args:=[.list (ns.map .int)] }=true:=by have h4:=(holds_andW hc).1;rw[hn]at h4;exact h4
  have h5:=condW_of h4 (w_not (w_lt w_lit (w_len_list (w_arg rfl))));rw[Dk]at h5;refine Nat.le_of_not_lt fun q=>?_;have q':(n:Int)<((ns.length:Nat):Int):=by omega
  first
   |(rw[decide_eq_true q']at h5;exact absurd h5 (by decide))
   |(simp at h5;omega)
 cases hwl with
 |cons w1 w2=>
  cases w2;cases w1 with
  |list ho hall=>exact⟨_,_,ns,rfl,rfl,ho,lN ns _ hall,D9⟩
theorem AV(l:OpenLaw)(args:List WData):l.row.toRowW.claim.post args (.bool true) args=true:=
 postW_of (r:=l.row.toRowW) (X:=(true == true))
  (show WShape.has [] (.bool true) .bool=true by first | rfl | decide | simp[WShape.has,WShape.arms,WShape.armsAll])
  (show (WTm.eq .res (.lit (.bool true))).value [] { args:=args,res:=some (.bool true),after:=args }=some (.bool (true == true)) from w_eq_bool (w_res rfl) w_lit) rfl
theorem t_{l:OpenLaw}{n:Nat}{q:Program}{loose:List Str}{XP:(Str->Option Value)->Heap->Prop}{YP:World->Heap->Prop}{d:DefRec}
  (hn:l.most=some n) (hdf:d.params.defaults=[])
  (call:∀ (w:World) (s₀ s₁:Shared) (mg mb:Str→Option Value) (fa:Addr) (o:Obj) (pm cd doc:Value) (a:Addr) (vs:List Value) (ns:List Int),
   Ground q loose [] XP w s₀ mg mb s₁.heap->YP w s₁.heap ->
   s₁.heap.get? fa=some o->o.data=.func (docDef d.name d.params d.body d.scope pm cd doc)->s₁.heap.CodeRec cd d.name->mg d.name=some (.ref fa) ->
   s₁.heap.get? a=some { cls:=.type "list",data:=.seq vs.toArray }->IntsAre vs ns->ns.length<=n->s₁.gens=#[] ->
   codeAny (model l.prog w) callerA (.call (.ref fa) ⟨[.ref a],[]⟩) (fun r s'=>r=.ok (.ret (.bool true))/\OldK s₁.heap s'.heap/\s'.os=s₁.os/\AllBare s'.gens) s₁) :
  WalkO q loose XP YP l.row.toRowW d [] (fun f vs=>PySem.call f vs):=by
 intro w s₀ s₁ mg mb G Y fa o pm cd doc dV kV ho hd J2 hD hmg hg args vals as hpre hlay hrd hwl hlo;obtain rfl:dV=.none:=Dflts.none hD hdf;obtain rfl:kV=.none:=Dflts.noKw hD;obtain⟨a,vs,ns,rfl,rfl,hobj,hints,D9⟩:=AU hn hpre hwl;refine enter_call (codeAny_mono (call w s₀ s₁ mg mb fa o pm cd doc a vs ns G Y ho (fd_plain hd) J2 hmg hobj hints D9 hg) fun r s' hq=>?_);obtain⟨rfl,h2,h3,h4⟩:=hq;exact⟨.inl ⟨.bool true,.bool true,[],rfl,fun _=>rfl,.bool true,AV l _,fun _=>⟨List.Pairwise.nil,fun _ hm=>(nomatch hm)⟩⟩,h2,h3,h4⟩
end Att
namespace L2
open PySem PySem.Spec PyProof.Rows
noncomputable def aS(s:Stmt):Arguments:=match s with
 |.FunctionDef _ a _ _ _ _ _ _ _ _=>a
 |_=>{ posonlyargs:=[],args:=[],vararg:=none,kwonlyargs:=[],kw_defaults:=[],kwarg:=none,defaults:=[] }
noncomputable def aO(s:Stmt):List Stmt:=match s with
 |.FunctionDef _ _ b _ _ _ _ _ _ _=>b
 |_=>[]
noncomputable def af(s:Stmt):Scope:=match s with
 |.FunctionDef _ _ _ _ _ _ sc _ _ _=>sc
 |_=>{ kind:=.function,names:=[],isGenerator:=false,isCoroutine:=false }
noncomputable abbrev CX0:CXT:=fun _ _ _ _ _ _=>False
noncomputable abbrev E0:XK:=fun _ _ _=>False
theorem ua{X:Cx}:Passes CX0 X E0:=fun _ _ _ _ _ _ _ h=>h.elim
structure Fun(K:Dp)(x qual:Str)(st:Stmt)(f:Addr)(fd:FuncData):Prop where
 ex:∃(oc:Value) (od:Option Addr) (kV doc pm:Value) (an:Option Addr) (cdv ct:Value) (osl:Array (Option Value)),
  fd=TR x qual (aS st) (aO st) (af st) .none kV doc pm an cdv ct/\K.lookup f=some ⟨oc,od,.func fd,osl⟩/\Vk K cdv qual=true
 kp:Ut K (.ref f)=true
section
variable{P:Program}{w:World}{K:Dp}{mg:Str->Option Value}{base:Heap}
section
variable{x qual:Str}{st:Stmt}{fd:FuncData}{f:Addr}
theorem Fun.ok{N ps:List Str}{k:Nat}{sp:Sp}(F:Fun K x qual st f fd)(S:ak N ps (af st))(len:∀vs H Q E,sp vs H Q E->vs.length=ps.length)
  (hbody:∀ (cdv:Value) (A:Around) (outer:List Env) (s:Shared) (H:Hp) (vs:List V) (Q:VK) (E:XK),aX k (A.deeper (envOfC qual (af st) s.heap.objs.size f cdv))→sp vs H Q E →
   ∃t,PSs (j4 CX0 P w K mg base N qual (af st) f cdv A outer s H E).nox (aO st) t/\t { nx:=fun _ H'=>Q .non H',rt:=Q } (start N vs) H):aR P w K mg base CX0 (k+1) f fd ps sp:=by
 obtain⟨oc,od,kV,doc,pm,an,cdv,ct,osl,rfl,lk,J2⟩:=F.ex;refine Cn lk J2 S len fun A outer s H vs Q E hr hsp=>?_;obtain⟨t,h,q⟩:=hbody cdv A outer s H vs Q E hr hsp;exact⟨t,h.nox,q⟩
theorem Fun.binds{ps:List Str}(F:Fun K x qual st f fd)
  (h:∀(kV doc pm:Value) (an:Option Addr) (cdv ct:Value) (us:List Value),us.length=ps.length->bindArgs (TR x qual (aS st) (aO st) (af st) .none kV doc pm an cdv ct) ⟨us,[]⟩=pure (ps.zip us)):Binds K fd ps []:=by
 obtain⟨oc,od,kV,doc,pm,an,cdv,ct,osl,rfl,lk,J2⟩:=F.ex;exact .all (h kV doc pm an cdv ct)
theorem LO{oc:Value}{od an:Option Addr}{osl:Array (Option Value)}{kV doc pm cdv ct:Value}(l:K.lookup f=some ⟨oc,od,.func (TR x qual (aS st) (aO st) (af st) .none kV doc pm an cdv ct),osl⟩)
  (c:Vk K cdv qual=true) (k:Ut K (.ref f)=true):Fun K x qual st f (TR x qual (aS st) (aO st) (af st) .none kV doc pm an cdv ct):=⟨⟨oc,od,kV,doc,pm,an,cdv,ct,osl,rfl,l,c⟩,k⟩
end
end
def au(H H':Hp):Prop:=∀b o,H b=some o->H' b=some o
theorem au.refl(H:Hp):au H H:=fun _ _ h=>h
theorem au.trans{H H1 H2:Hp}(a:au H H1)(b:au H1 H2):au H H2:=fun c o h=>b c o (a c o h)
theorem au.free{H H':Hp}(e:au H H'){l:Addr}(h:H' l=Option.none):H l=Option.none:=by
 cases q:H l with
 |none=>rfl
 |some o=>rw[e l o q]at h;cases h
section
variable{κ:Type}[DecidableEq κ]
section
variable{u:Option Value}{o:Option V}{y:V}
noncomputable def gX(kvs:List (κ×V))(k:κ):Option V:=(kvs.find? fun kv=>decide (kv.1=k)).map (·.2)
noncomputable def putK(kvs:List (κ×V))(k:κ)(v:V):List (κ×V):=
 if (kvs.any fun kv=>decide (kv.1=k))=true then kvs.map (fun kv=>if kv.1=k then (kv.1,v) else kv) else kvs++[(k,v)]
noncomputable def kT(kvs:List (κ×V))(k:κ):List (κ×V):=kvs.filter fun kv=>decide (kv.1≠k)
theorem jv{p:κ×V}{r:List (κ×V)}{k:κ}(e:p.1=k):gX (p::r) k=some p.2:=by simp[gX,UH,e]
theorem jx{p:κ×V}{r:List (κ×V)}{k:κ}(e:¬p.1=k):gX (p::r) k=gX r k:=by simp[gX,UH,e]
theorem uc(k:κ):∀kvs:List (κ×V),(kvs.any fun kv=>decide (kv.1=k))=(gX kvs k).isSome
 |[]=>rfl
 |p::r=>by
  rw[U4];by_cases e:p.1=k
  ·simp only[jv e,decide_eq_true e,Bool.true_or,Option.isSome_some]
  ·rw[jx e,decide_eq_false e,Bool.false_or];exact uc k r
theorem fU(kvs:List (κ×V))(k:κ)(v:V):(putK kvs k v).length<=kvs.length+1:=by
 unfold putK;split
 ·rw[Dk];lia
 ·rw[Tg,TV,Vy];lia
theorem jn.eE(r:jn o u):o.isSome=u.isSome:=by
 cases o with
 |none=>cases u with
  |none=>rfl
  |some _=>exact(show False from r).elim
 |some _=>cases u with
  |none=>exact(show False from r).elim
  |some _=>rfl
theorem jn.getD{d:V}{d':Value}(r:jn o u)(rd:RelV d d'):RelV (o.getD d) (u.getD d'):=by
 cases o with
 |none=>cases u with
  |none=>exact rd
  |some _=>exact(show False from r).elim
 |some _=>cases u with
  |none=>exact(show False from r).elim
  |some _=>exact r
theorem KV.val{kvs:List (κ×V)}{vs:List (κ×Value)}(r:KV kvs vs)(k:κ):jn (gX kvs k) (valueAt vs k):=by
 unfold KV at r
 induction r with
 |nil=>exact UX
 |@cons p q ps qs h t ih=>
  obtain⟨h1,h2⟩:=h;by_cases e:p.1=k
  ·have e':q.1=k:=h1.symm.trans e;have b:valueAt (q::qs) k=some q.2:=by simp[valueAt,UH,e']
   rw[jv e,b];exact h2
  ·have e':¬q.1=k:=fun z=>e (h1.trans z);have b:valueAt (q::qs) k=valueAt qs k:=by simp[valueAt,UH,e']
   rw[jx e,b];exact ih
theorem KV.any{kvs:List (κ×V)}{vs:List (κ×Value)}(r:KV kvs vs)(k:κ):(kvs.any fun kv=>decide (kv.1=k))=vs.any fun kv=>decide (kv.1=k):=by
 unfold KV at r
 induction r with
 |nil=>rfl
 |cons h t ih=>rw[U4,U4,ih,h.1]
theorem KV.repl{kvs:List (κ×V)}{vs:List (κ×Value)}(r:KV kvs vs)(k:κ){u:Value}(ry:RelV y u) :
  KV (kvs.map fun kv=>if kv.1=k then (kv.1,y) else kv) (vs.map fun kv=>if kv.1=k then (kv.1,u) else kv):=by
 unfold KV at r ⊢
 induction r with
 |nil=>exact .nil
 |@cons p q ps qs h t ih=>
  rw[eg,eg];refine .cons ?_ ih;obtain⟨h1,h2⟩:=h;by_cases e:p.1=k
  ·rw[if_pos e,if_pos (h1.symm.trans e)];exact⟨h1,ry⟩
  ·rw[if_neg e,if_neg (fun z=>e (h1.trans z))];exact⟨h1,h2⟩
theorem KV.put{kvs:List (κ×V)}{vs:List (κ×Value)}(r:KV kvs vs)(k:κ){u:Value}(ry:RelV y u):KV (putK kvs k y) (stored vs k u):=by
 unfold putK stored;rw[r.any k];by_cases e:(vs.any fun kv=>decide (kv.1=k))=true
 ·rw[if_pos e,if_pos e];exact r.repl k ry
 ·rw[if_neg e,if_neg e];exact Paired.snoc r ⟨rfl,ry⟩
theorem KV.drop{kvs:List (κ×V)}{vs:List (κ×Value)}(r:KV kvs vs)(k:κ):KV (kT kvs k) (without vs k):=by
 unfold KV at r ⊢;unfold kT without
 induction r with
 |nil=>exact .nil
 |@cons p q ps qs h t ih=>
  obtain⟨h1,h2⟩:=h;rw[TX,TX];by_cases e:p.1=k
  ·have a:¬decide (p.1≠k)=true:=by simp[e]
   have b:¬decide (q.1≠k)=true:=by simp[h1.symm.trans e]
   rw[if_neg a,if_neg b];exact ih
  ·have e':¬q.1=k:=fun z=>e (h1.trans z);have a:decide (p.1≠k)=true:=by simp[e]
   have b:decide (q.1≠k)=true:=by simp[e']
   rw[if_pos a,if_pos b];exact .cons ⟨h1,h2⟩ ih
theorem KV.length{kvs:List (κ×V)}{vs:List (κ×Value)}(r:KV kvs vs):kvs.length=vs.length:=Paired.length r
theorem Cr(kvs:List (κ×V))(k:κ):(kT kvs k).length<=kvs.length:=UA _ _
end
end
section
variable{xs:List (List Key×Addr×Value)}{kvs:List (List Key×V)}{u:Value}{P:Program}{w:World}{H:Hp}{y:V}
theorem kU{k:Key}(r:RelV (kV k) u):(a_ P w).is k u=true:=by
 cases k with
 |inl i=>obtain⟨t,e⟩:=(show ∃t,u=Vj i t from r);subst e;exact tS P w i t
 |inr x=>obtain⟨t,e⟩:=(show ∃t,u=W6 x t from r);subst e;exact tT P w x t
theorem qB:∀{ks:List Key} {us:List Value},Vals (ks.map kV) us->ItemsAre (a_ P w) ks us
 |[],_,r=>by rw[Wu]at r;cases r;exact .nil
 |k::ks,_,r=>by
  rw[eg]at r;cases r with
  |cons h t=>exact .cons (kU h) (qB t)
noncomputable abbrev KT(H:Hp):List (List Key×V)->List (List Key×Addr×Value)->Prop:=Paired fun p q=>p.1=q.1/\H q.2.1=some (.tup (p.1.map kV))/\RelV p.2 q.2.2
theorem KT.val(r:KT H kvs xs)(k:List Key):jn (gX kvs k) ((atKey xs k).map (·.2)):=by
 induction r with
 |nil=>exact UX
 |@cons p q ps qs h t ih=>
  obtain⟨h1,_,h2⟩:=h;by_cases e:p.1=k
  ·have e':q.1=k:=h1.symm.trans e;have b:atKey (q::qs) k=some q.2:=by simp[atKey,UH,e']
   rw[jv e,b];exact h2
  ·have e':¬q.1=k:=fun z=>e (h1.trans z);have b:atKey (q::qs) k=atKey qs k:=by simp[atKey,UH,e']
   rw[jx e,b];exact ih
theorem KT.repl(r:KT H kvs xs)(k:List Key)(ry:RelV y u) :
  KT H (kvs.map fun kv=>if kv.1=k then (kv.1,y) else kv) (xs.map (putAt k u)):=by
 induction r with
 |nil=>exact .nil
 |@cons p q ps qs h t ih=>
  rw[eg,eg];refine .cons ?_ ih;obtain⟨h1,h2,h3⟩:=h;unfold putAt;by_cases e:p.1=k
  ·rw[if_pos e,if_pos (h1.symm.trans e)];exact⟨h1,h2,ry⟩
  ·rw[if_neg e,if_neg (fun z=>e (h1.trans z))];exact⟨h1,h2,h3⟩
theorem KT.put(r:KT H kvs xs)(k:List Key){b:Addr}(hb:H b=some (.tup (k.map kV)))(ry:RelV y u) :
  KT H (putK kvs k y) (storedH xs k b u):=by
 have e:(kvs.any fun kv=>decide (kv.1=k))=(atKey xs k).isSome:=by rw[uc,(r.val k).eE,V5]
 unfold putK storedH;rw[e];by_cases q:(atKey xs k).isSome=true
 ·rw[if_pos q,if_pos q];exact r.repl k ry
 ·rw[if_neg q,if_neg q];exact Paired.snoc r ⟨rfl,hb,ry⟩
theorem KT.keeps{H H':Hp}(r:KT H kvs xs)(ht:∀b ys,H b=some (.tup ys)->H' b=some (.tup ys)):KT H' kvs xs:=
 Paired.B0 r fun _ _ z=>⟨z.1,ht _ _ z.2.1,z.2.2⟩
end
section
variable{P:Program}{w:World}{H:Hp}{h:Heap}{a:Addr}
section
variable{kvs:List (List Key×V)}
theorem JG{u:HO}(ok:HOk P w H h)(e:Rd H a u):aU P w H h a u:=e.ok ok
theorem kW{kvs:List (Key×V)}(ok:HOk P w H h)(e:Rd H a (.dK kvs)):kvs.length<=sizeLine/\(a == sysModules)=false/\∃vs,KV kvs vs/\h.DictOf (a_ P w) a vs:=
 show aU P w H h a (.dK kvs) from JG ok e
theorem zc{kvs:List (Key×V)}(ok:HOk P w H h)(e:H a=some (.dK kvs)):kvs.length<=sizeLine/\(a == sysModules)=false/\∃vs,KV kvs vs/\h.DictOf (a_ P w) a vs:=kW ok (.inl e)
theorem j6{ks:List Key}(ok:HOk P w H h)(e:H a=some (.tup (ks.map kV))):(tupleKind (a_ P w)).is h ks a:=by
 obtain⟨_,its,r,o,h1,h2,n,h3⟩:=(show aU P w H h a (.tup (ks.map kV)) from ok a _ e)
 exact⟨o,its.toArray,n,h1,h2,h3,by simpa using qB r⟩
theorem mL(ok:HOk P w H h)(e:Rd H a (.dT kvs)):kvs.length<=sizeLine/\(a == sysModules)=false /\
  ∃xs,KT H kvs xs/\h.DictOfH (tupleKind (a_ P w)) a xs:=by
 obtain⟨z,y,xs,r,o,es,ep,h1,h2,h3,h4,h5⟩:=(show aU P w H h a (.dT kvs) from JG ok e)
 refine⟨z,y,xs,r,o,es,ep,h1,h2,h3,h4,fun x hx=>?_,h5⟩;have all:∀{l:List (List Key×V)} {m:List (List Key×Addr×Value)},KT H l m->∀x∈m,(tupleKind (a_ P w)).is h x.1 x.2.1:=by
  intro l m q
  induction q with
  |nil=>intro x hx;exact nomatch hx
  |@cons p q ps qs hq t ih=>
   intro x hx;rcases S4.mp hx with e | hx
   ·subst e;exact j6 ok (by rw[<- hq.1];exact hq.2.1)
   ·exact ih x hx
 exact all r x hx
theorem OS(ok:HOk P w H h)(e:H a=some (.dT kvs)):kvs.length<=sizeLine/\(a == sysModules)=false /\
  ∃xs,KT H kvs xs/\h.DictOfH (tupleKind (a_ P w)) a xs:=mL ok (.inl e)
end
end
section
variable{kvs:List (Key×V)}{a:Addr}{H:Hp}
def fR(H:Hp)(a:Addr)(y:V)(r:Option V):Prop:=
 (∃kvs k,Rd H a (.dK kvs)/\y=kV k/\r=gX kvs k)\/∃kvs k b,Rd H a (.dT kvs)/\y=.ref b/\H b=some (.tup (k.map kV))/\r=gX kvs k
def Cs(H:Hp)(a:Addr)(y v:V)(H':Hp):Prop:=
 (∃kvs k,H a=some (.dK kvs)/\y=kV k/\kvs.length<sizeLine/\H'=upd H a (.dK (putK kvs k v))) \/
 ∃kvs k b,H a=some (.dT kvs)/\y=.ref b/\H b=some (.tup (k.map kV))/\kvs.length<sizeLine/\H'=upd H a (.dT (putK kvs k v))
theorem fR.k{k:Key}(e:H a=some (.dK kvs)):fR H a (kV k) (gX kvs k):=.inl ⟨kvs,k,.inl e,rfl,rfl⟩
theorem Cs.k{k:Key}{v:V}(e:H a=some (.dK kvs))(hl:kvs.length<sizeLine):Cs H a (kV k) v (upd H a (.dK (putK kvs k v))):=.inl ⟨kvs,k,e,rfl,hl,rfl⟩
end
section
variable{X:Cx}{sV:List (Addr×Obj)}{σ:St}{H:Hp}{s:Shared}{a:Addr}{y v:V}{u r:Value}{o:Option V}{A:Around}{E:Value->Shared->Prop}
section
variable{Q:Value->Shared->Prop}{h':Heap}
theorem Inv.big(I:Inv X sV σ H s):sysModules<s.heap.objs.size:=by have h:mainGlobals<s.heap.objs.size:=(I.mod.glob.keeps I.bk).lt;exact Xs (by decide) h
theorem AW(hu:A.units+1<cLine)(I:Inv X sV σ H s)(g:fR H a y (some v))(ry:RelV y u)(h:∀w' s',Inv X sV σ H s'->RelV v w'->Q w' s') :
  wpAny (model X.prog X.w) A (getItem (.ref a) u) Q E s:=by
 rcases g with⟨kvs,k,e,ey,l⟩ | ⟨kvs,k,b,e,ey,eb,l⟩
 ·subst ey;obtain⟨z,hd,vs,rel,dd⟩:=kW I.hok e;obtain⟨w',hw,rw'⟩:=jn.some_of (v:=v) (o:=valueAt vs k) (by rw[l];exact rel.val k);exact wpAny_getItem_of (kU ry) dd.mapOf hw (h w' _ (I.tok _) rw')
 ·subst ey;cases (show u=Tz b from ry);obtain⟨z,hd,xs,rel,dd⟩:=mL I.hok e;obtain⟨w',hw,rw'⟩:=jn.some_of (v:=v) (o:=(atKey xs k).map (·.2)) (by rw[l];exact rel.val k);obtain⟨p,hp,hp2⟩:=Option.map_eq_some_iff.mp hw;refine wpAny_getItem_heap (tupleKind_room_in1 hu) (j6 I.hok eb) dd hp ?_;rw[hp2];exact h w' _ (I.tok _) rw'
theorem AX(hu:A.units+1<cLine)(I:Inv X sV σ H s)(g:fR H a y o)(ry:RelV y u)(h:∀s',Inv X sV σ H s'->Q (.bool o.isSome) s') :
  wpAny (model X.prog X.w) A (compareOp .In u (.ref a)) Q E s:=by
 rcases g with⟨kvs,k,e,ey,l⟩ | ⟨kvs,k,b,e,ey,eb,l⟩
 ·subst ey;obtain⟨z,hd,vs,rel,dd⟩:=kW I.hok e;refine wpAny_in_of (kU ry) hd dd.mapOf ?_;rw[<- (rel.val k).eE,<- l];exact h _ (I.tok _)
 ·subst ey;cases (show u=Tz b from ry);obtain⟨z,hd,xs,rel,dd⟩:=mL I.hok e;refine wpAny_in_heap (tupleKind_room_in1 hu) (j6 I.hok eb) hd dd ?_;have q:=(rel.val k).eE;rw[V5]at q;rw[<- q,<- l];exact h _ (I.tok _)
theorem GU(hu:A.units+1<cLine)(I:Inv X sV σ H s)(g:fR H a y o)(ry:RelV y u)(h:∀s',Inv X sV σ H s'->Q (.bool (!o.isSome)) s') :
  wpAny (model X.prog X.w) A (compareOp .NotIn u (.ref a)) Q E s:=by
 rcases g with⟨kvs,k,e,ey,l⟩ | ⟨kvs,k,b,e,ey,eb,l⟩
 ·subst ey;obtain⟨z,hd,vs,rel,dd⟩:=kW I.hok e;refine wpAny_notIn_of (kU ry) hd dd.mapOf ?_;rw[<- (rel.val k).eE,<- l];exact h _ (I.tok _)
 ·subst ey;cases (show u=Tz b from ry);obtain⟨z,hd,xs,rel,dd⟩:=mL I.hok e;refine wpAny_notIn_heap (tupleKind_room_in1 hu) (j6 I.hok eb) hd dd ?_;have q:=(rel.val k).eE;rw[V5]at q;rw[<- q,<- l];exact h _ (I.tok _)
theorem l8{t':Nat}{ob:HO}(I:Inv X sV σ H s)(mu:Mut (H a))(hs:Vl a s.heap h')(he:∃q,h'.get? a=some q)(new:aU X.prog X.w (upd H a ob) h' a ob) :
  Inv X sV σ (upd H a ob) { s with heap:=h',toks:=t' }:=
 I.write (x:=a) (e:=a) mu (.inl rfl) (fun b q hb z=>(hs.2 b hb).trans z) he new
theorem r9{P:Program}{w:World}{H':Hp}{kvs:List (Key×V)}{vs:List (Key×Value)}(z:kvs.length<=sizeLine)(hd:(a == sysModules)=false)(rel:KV kvs vs)(dd:h'.DictOf (a_ P w) a vs) :
  aU P w H' h' a (.dK kvs):=⟨z,hd,vs,rel,dd⟩
theorem AY{H':Hp}{Q:Unit->Shared->Prop}(hu:A.units+1<cLine)(I:Inv X sV σ H s)(g:Cs H a y v H')(ry:RelV y u)(rv:RelV v r)(h:∀s',Inv X sV σ H' s'->Q () s') :
  wpAny (model X.prog X.w) A (setItem (.ref a) u r) Q E s:=by
 rcases g with⟨kvs,k,e,ey,l,eH⟩ | ⟨kvs,k,b,e,ey,eb,l,eH⟩
 ·subst ey eH;obtain⟨z,hd,vs,rel,dd⟩:=zc I.hok e;have hz:vs.length<=sizeLine:=by rw[<- rel.length];exact z
  have hl:(putK kvs k v).length<=sizeLine:=by have:=fU kvs k v;lia
  refine wpAny_setItem_pairs (hsz:=hz) (kU ry) dd fun h' dd' hs=>h _ ?_;have he:∃q,h'.get? a=some q:=let ⟨q,_,_,hq,_⟩:=dd';⟨q,hq⟩
  exact l8 I (by rw[e];exact UX) hs he (r9 hl hd (rel.put k rv) dd')
 ·subst ey eH;cases (show u=Tz b from ry);obtain⟨z,hd,xs,rel,dd⟩:=OS I.hok e;have hz:xs.length<=sizeLine:=by rw[<- Paired.length rel];exact z
  have hl:(putK kvs k v).length<=sizeLine:=by have:=fU kvs k v;lia
  refine wpAny_setItem_heap (hsz:=hz) (tupleKind_room_in1 hu) (j6 I.hok eb) dd fun h' dd' hs=>h _ ?_;obtain⟨q,es,ep,hq,h2,h3,h4,_,h5⟩:=dd';refine l8 I (by rw[e];exact UX) hs ⟨q,hq⟩ ⟨hl,hd,_,(rel.put k eb rv).keeps fun c ys ec=>?_,q,es,ep,hq,h2,h3,h4,h5⟩;rw[aj (OB ec e (fun z=>nomatch z))];exact ec
end
end
section
variable{X:Cx}{sV:List (Addr×Obj)}{σ:St}{H:Hp}{s:Shared}{a:Addr}{kvs:List (Key×V)}{k:Key}{u:Value}{A:Around}{E:Value->Shared->Prop}
theorem OT{v:V}{more:List Value}{Q:Value->Shared->Prop}(I:Inv X sV σ H s)(e:H a=some (.dK kvs))(ry:RelV (kV k) u)(l:gX kvs k=some v)(hm:more=[]\/∃x,more=[x])
  (h:∀w' s',Inv X sV σ (upd H a (.dK (kT kvs k))) s'->RelV v w'->Q w' s'):wpAny (model X.prog X.w) A (call (.builtin "dict.pop") (.ref a::u::more)) Q E s:=by
 obtain⟨z,hd,vs,rel,dd⟩:=zc I.hok e;obtain⟨w',hw,rw'⟩:=jn.some_of (v:=v) (o:=valueAt vs k) (by rw[<- l];exact rel.val k);have hp:(keyPart u).isSome=true:=by
  cases k with
  |inl i=>obtain⟨t,q⟩:=(show ∃t,u=Vj i t from ry);subst q;rfl
  |inr x=>obtain⟨t,q⟩:=(show ∃t,u=W6 x t from ry);subst q;rfl
 have ha:argsOk "dict.pop" ⟨.ref a::u::more,[]⟩:=by
  rcases hm with q | ⟨x,q⟩
  ·subst q;exact PySem.F.args_dict_pop_2 _ _
  ·subst q;exact PySem.F.args_dict_pop_3 _ _ _
 refine call_meetsIn PySem.F.slot_dict_pop dd.typeIs PySem.F.entry_dict_pop ha (meets_dict_pop_there (a_ X.prog X.w) a (kU ry) more hm hp)
  ⟨vs,w',dd,by rw[<- rel.length];exact z,hw,fun h' dd' hs=>h w' _ ?_ rw'⟩
 have he:∃q,h'.get? a=some q:=let ⟨q,_,_,hq,_⟩:=dd';⟨q,hq⟩
 exact l8 I (by rw[e];exact UX) hs he (r9 (Tq (Cr kvs k) z) hd (rel.drop k) dd')
end
def LP(i:Expr):Prop:=∀ov iv,subscripted i false ov iv=operate [ov,iv] (getItem ov iv)
theorem GV{prog:Program}{w:World}{A:Around}{E:Value->Shared->Prop}{s:Shared}{env:Env}{value slice:Expr}{pos:Pos}{T id:String}{Q:Value->Shared->Prop}
  (hl:typeLookup (.type T) "__getitem__" = pure (some (.builtin id))) (hs:LP slice)
  (h:wpAny (model prog w) A (eval value env) (fun o s₁=>wpAny (model prog w) A (eval slice env) (fun i s₂=>s₂.TypeIs o T/\wpAny (model prog w) A (getItem o i) Q E s₂) E s₁) E s) :
  wpAny (model prog w) A (eval (.Subscript value slice pos) env) Q E s:=by
 refine Subscript_ (wpAny_mono h (fun o s₁ h₁=>wpAny_mono h₁ (fun i s₂ h₂=>?_) fun _ _ x=>x) fun _ _ x=>x);obtain⟨hT,h₂⟩:=h₂;unfold subscriptTail;refine wpAny_bind ?_;rw[getitemInPython_of_ne hT.not_modules];refine wpAny_bind (wpAny_specialOf hT hl ?_);have Fp:wpAny (model prog w) A (subscripted slice false o i) (fun r s₃=>wpAny (model prog w) A (letTemporaryGo value o r >>= fun _=>pure r) Q E s₃) E s₂:=by rw[hs o i];exact wpAny_operating (wpAny_mono h₂ (fun r s₃ h₃=>wpAny_bind (wpAny_letTemporaryGo (wpAny_pure h₃))) fun _ _ x=>x)
 first
  |exact wpAny_pure (wpAny_bind Fp)
  |exact wpAny_bind (wpAny_pure (wpAny_bind Fp))
  |exact wpAny_bind Fp
theorem ud{X:Cx}{sV:List (Addr×Obj)}{σ:St}{H:Hp}{s:Shared}{a:Addr}{y:V}{o:Option V}(I:Inv X sV σ H s)(g:fR H a y o):s.TypeIs (.ref a) "dict" := by
 rcases g with⟨kvs,k,e,_,_⟩ | ⟨kvs,k,b,e,_,_,_⟩
 ·obtain⟨_,_,vs,_,dd⟩:=kW I.hok e;exact dd.typeIs
 ·obtain⟨_,_,xs,_,dd⟩:=mL I.hok e;exact dd.typeIs
def OU(td ty:TE):TE:=fun σ H Q=>td σ H fun x H1=>ty σ H1 fun y H2=>∃a v,x=.ref a/\fR H2 a y (some v)/\Q v H2
def RH(ty td:TE):TE:=fun σ H Q=>ty σ H fun y H1=>td σ H1 fun x H2=>∃a o,x=.ref a/\fR H2 a y o/\Q (.bl o.isSome) H2
def GW(ty td:TE):TE:=fun σ H Q=>ty σ H fun y H1=>td σ H1 fun x H2=>∃a o,x=.ref a/\fR H2 a y o/\Q (.bl (!o.isSome)) H2
def JH(td ty tv:TE):TS:=fun D σ H=>tv σ H fun v H1=>td σ H1 fun x H2=>ty σ H2 fun y H3=>∃a H4,x=.ref a/\Cs H3 a y v H4/\D.nx σ H4
section
variable{X:Cx}{o i e value:Expr}{pos pos' tpos:Pos}{td ty tv:TE}
theorem GX(hu:X.A.units+1<cLine)(ho:PE X o td)(hi:PE X i ty)(hs:LP i):PE X (.Subscript o i pos) (OU td ty):=by intro sV s σ H Q I h;refine GV PySem.F.slot_dict_getitem.lookup hs (thn (ho sV s σ H _ I h) fun u s1 ⟨x,H1,I1,rx,q1⟩=>thn (hi sV s1 σ H1 _ I1 q1) fun iv s2 ⟨y,H2,I2,ry,a,v,ex,g,q2⟩=>?_);subst ex;obtain rfl:u=Tz a:=rx;exact⟨ud I2 g,AW hu I2 g ry fun w' s3 I3 rw'=>⟨v,H2,I3,rw',q2⟩⟩
theorem LQ(hu:X.A.units+1<cLine)(hi:PE X i ty)(ho:PE X o td):PC X .In i o (RH ty td):=by intro sV s σ H Q I h;refine thn (hi sV s σ H _ I h) fun iv s1 ⟨y,H1,I1,ry,q1⟩=>thn (ho sV s1 σ H1 _ I1 q1) fun u s2 ⟨x,H2,I2,rx,a,ov,ex,g,q2⟩=>?_;subst ex;obtain rfl:u=Tz a:=rx;exact AX hu I2 g ry fun s3 I3=>⟨.bl ov.isSome,H2,I3,rfl,q2⟩
theorem AZ(hu:X.A.units+1<cLine)(hi:PE X i ty)(ho:PE X o td):PC X .NotIn i o (GW ty td):=by intro sV s σ H Q I h;refine thn (hi sV s σ H _ I h) fun iv s1 ⟨y,H1,I1,ry,q1⟩=>thn (ho sV s1 σ H1 _ I1 q1) fun u s2 ⟨x,H2,I2,rx,a,ov,ex,g,q2⟩=>?_;subst ex;obtain rfl:u=Tz a:=rx;exact GU hu I2 g ry fun s3 I3=>⟨.bl (!ov.isSome),H2,I3,rfl,q2⟩
theorem GY(hu:X.A.units+1<cLine)(ho:PE X o td)(hi:PE X i ty)(hv:PE X value tv)(hs:swapsWith value (some (.Subscript o i pos')) pos.line X.env=pure false) :
  PS X (.Assign [.Subscript o i pos'] value pos) (JH td ty tv):=by
 intro sV s σ H D I h;refine wpAny_Assign_Subscript (thn (hv sV s σ H _ I h) fun r s1 ⟨v,H1,I1,rv,q1⟩=>thn (ho sV s1 σ H1 _ I1 q1) fun u s2 ⟨x,H2,I2,rx,q2⟩=>thn (hi sV s2 σ H2 _ I2 q2) fun iv s3 ⟨y,H3,I3,ry,a,H4,ex,g,q3⟩=>?_) hs;subst ex;obtain rfl:u=Tz a:=rx;exact AY hu I3 g ry rv fun s4 I4=>⟨σ,H4,I4,q3⟩
end
theorem ue{P:Program}{w:World}{H:Hp}(h:Heap)(hb:sysModules<h.objs.size):aU P w H (h.push { cls:=.type "dict",data:=.dict #[] }) h.objs.size (.dK []):=
 ⟨TM _,beq_eq_false_iff_ne.mpr (Ne.symm (Ti hb)),[],.nil,Heap.DictOf.new h⟩
def Ct:TE:=fun _ H Q=>∀p,H p=none->Q (.ref p) (upd H p (.dK []))
section
variable{X:Cx}{pos:Pos}
theorem Cu:PE X (.Dict [] [] pos) Ct:=fun sV s σ H Q I h=>wpAny_Dict_empty ⟨.ref s.heap.objs.size,_,I.laid (a:=s.heap.objs.size) (o:=.dK []) (t':=s.toks) (fun _ _ q=>Ds _ q) (PU _) (ue s.heap I.big),rfl,h _ (I.hok.fresh (PU _))⟩
end
section
variable{trs:List (TE×TE)}{pos:Pos}{X:Cx}
def xx:List (TE×TE)->St->Hp->(List (V×V)->Hp->Prop)->Prop
 |[],_,H,Q=>Q [] H
 |(tk,tv)::r,σ,H,Q=>tk σ H fun x H1=>tv σ H1 fun y H2=>xx r σ H2 fun ps H3=>Q ((x,y)::ps) H3
noncomputable abbrev VV:List (V×V)->List (Value×Value)->Prop:=Paired fun p q=>RelV p.1 q.1/\RelV p.2 q.2
def PPs(X:Cx)(pos:Pos)(keys:List (Option Expr))(values:List Expr)(trs:List (TE×TE)):Prop:=
 ∀(sV:List (Addr×Obj)) (s:Shared) (σ:St) (H:Hp) (Q:List (V×V)->Hp->Prop),Inv X sV σ H s->xx trs σ H Q ->
  wpAny (model X.prog X.w) X.A (evalPairs (pairTrees keys values X.env pos)) (fun vs s'=>∃ps H',Inv X sV σ H' s'/\VV ps vs/\Q ps H') X.xe s
theorem GZ:PPs X pos [] [] []:=fun sV s σ H Q I h=>pairTrees_nil_walk ⟨[],H,I,.nil,h⟩
theorem Cv{k v:Expr}{ks:List (Option Expr)}{vs:List Expr}{tk tv:TE}(hk:PE X k tk)(hv:PE X v tv)(hr:PPs X pos ks vs trs) :
  PPs X pos (some k::ks) (v::vs) ((tk,tv)::trs):=fun sV s σ H Q I h=>
 pairTrees_cons_walk (thn (hk sV s σ H _ I h) fun u s1 ⟨x,H1,I1,rx,q1⟩=>thn (hv sV s1 σ H1 _ I1 q1) fun w2 s2 ⟨y,H2,I2,ry,q2⟩=>thn (hr sV s2 σ H2 _ I2 q2) fun ws s3 ⟨ps,H3,I3,rel,q3⟩=>⟨(x,y)::ps,H3,I3,.cons ⟨rx,ry⟩ rel,q3⟩)
noncomputable def j7(kvs more:List (Key×V)):List (Key×V):=more.foldl (fun tG kv=>putK tG kv.1 kv.2) kvs
theorem KV.merge:∀{more:List (Key×V)} {rs:List (Key×Value)} {kvs:List (Key×V)} {vs:List (Key×Value)},KV more rs->KV kvs vs->KV (j7 kvs more) (merged vs rs):=by
 intro more rs kvs vs r;unfold KV at r
 induction r generalizing kvs vs with
 |nil=>intro q;exact q
 |@cons p q ps qs h t ih=>
  intro r0;have e:KV (putK kvs p.1 p.2) (stored vs q.1 q.2):=by have:=r0.put p.1 h.2;rw[<- h.1];exact this
  exact ih e
theorem gS:∀(more kvs:List (Key×V)),(j7 kvs more).length<=kvs.length+more.length
 |[],kvs=>by show kvs.length<=kvs.length+0;lia
 |p::r,kvs=>by have h1:=gS r (putK kvs p.1 p.2);have h2:=fU kvs p.1 p.2;show (j7 (putK kvs p.1 p.2) r).length<=_;rw[TV];lia
theorem mO{P:Program}{w:World}:∀{kvs:List (Key×V)} {ws:List (Value×Value)},VV (kvs.map fun kv=>(kV kv.1,kv.2)) ws->∃rs,Carries (a_ P w) ws rs/\KV kvs rs
 |[],_,r=>by rw[Wu]at r;cases r;exact⟨[],UX,.nil⟩
 |p::kvs,_,r=>by
  rw[eg]at r;cases r with
  |@cons a b as bs h t=>obtain⟨rs,c,q⟩:=mO (P:=P) (w:=w) t;obtain⟨b1,b2⟩:=b;exact⟨(p.1,b2)::rs,⟨kU h.1,rfl,c⟩,.cons ⟨rfl,h.2⟩ q⟩
def JI(trs:List (TE×TE)):TE:=fun σ H Q=>∀p,H p=none->xx trs σ (upd H p (.dK [])) fun ps H2=>H2 p=some (.dK [])/\∃kvs:List (Key×V),ps=kvs.map (fun kv=>(kV kv.1,kv.2))/\kvs.length<=15/\Q (.ref p) (upd H2 p (.dK (j7 [] kvs)))
theorem G0{keys:List (Option Expr)}{values:List Expr}(h:PPs X pos keys values trs)(hall:keys.all (·.isSome)=true)(hl:keys.length=values.length)(h0:keys≠[])
  (h15:keys.length<=15):PE X (.Dict keys values pos) (JI trs):=by
 intro sV s σ H Q I q;have hn:=I.hok.fresh (PU s.heap.objs.size);have I1:=I.laid (a:=s.heap.objs.size) (o:=.dK []) (h':=s.heap.push { cls:=.type "dict",data:=.dict #[] }) (t':=s.toks) (fun _ _ q=>Ds _ q) (PU _) (ue s.heap I.big);refine wpAny_Dict_walk (knd:=a_ X.prog X.w) hall hl h0 h15 (thn (h sV _ σ _ _ I1 (q _ hn)) fun ws s2 ⟨ps,H2,I2,rel,e,kvs,ep,lk,q2⟩=>?_);subst ep;obtain⟨rs,c,rk⟩:=mO (P:=X.prog) (w:=X.w) rel;obtain⟨z,hd,vs0,r0,dd⟩:=zc I2.hok e;cases r0;refine⟨rs,c,dd,fun h' dd' hs=>⟨.ref s.heap.objs.size,_,?_,rfl,q2⟩⟩;have hz:(j7 [] kvs).length<=sizeLine:=by have h1:=gS kvs [];rw[Vy]at h1;rw[sizeLine_eq];lia
 have he:∃q,h'.get? s.heap.objs.size=some q:=let ⟨q,_,_,hq,_⟩:=dd';⟨q,hq⟩
 exact l8 I2 (by rw[e];exact UX) hs he (r9 hz hd (rk.merge .nil) dd')
structure M1(X:Cx)(o:Expr)(m:Str)(MX:Pos)(e:Expr)(cpos:Pos):Prop where
 base:attributeBase o m X.env (eval o X.env)=eval o X.env
 few:((backTo cpos (starEach [e] X.env)).all (fun x=>!x.1)&&(backToKw cpos (keywordEach [] X.env)).all (fun x=>x.1.isSome)
  && decide (([e]:List Expr).length+([]:List Keyword).length+(if ([]:List Keyword).isEmpty then 0 else 1)<30))=true
 line:(MX.endLine == cpos.line)=true
 trees:backTo cpos (starEach [e] X.env)=[(false,eval e X.env)]
def IsD(H:Hp)(a:Addr):Prop:=(∃kvs,Rd H a (.dK kvs))\/∃kvs,Rd H a (.dT kvs)
theorem Cw{sV:List (Addr×Obj)}{σ:St}{H:Hp}{s:Shared}{a:Addr}(I:Inv X sV σ H s)(d:IsD H a) :
  s.TypeIs (.ref a) "dict" /\ (∀b,Tz a=.ref b->∃ob,s.heap.get? b=some ob/\ob.dict=none)/\(a == sysModules)=false:=by
 rcases d with⟨kvs,e⟩ | ⟨kvs,e⟩
 ·obtain⟨_,hd,vs,_,dd⟩:=kW I.hok e;refine⟨dd.typeIs,fun b q=>?_,hd⟩;cases q;obtain⟨ob,_,_,h1,h2,_⟩:=dd;exact⟨ob,h1,h2.2.1⟩
 ·obtain⟨_,hd,xs,_,dd⟩:=mL I.hok e;refine⟨dd.typeIs,fun b q=>?_,hd⟩;cases q;obtain⟨ob,_,_,h1,h2,_⟩:=dd;exact⟨ob,h1,h2.2.1⟩
end
section
variable{X:Cx}{sV:List (Addr×Obj)}{σ:St}{H:Hp}{s:Shared}{a:Addr}{y d:V}{u r:Value}{o:Option V}{A:Around}{E:Value->Shared->Prop}
theorem LR{Q:Value->Shared->Prop}(hu:A.units+1<cLine)(I:Inv X sV σ H s)(g:fR H a y o)(ry:RelV y u)(h:∀w' s',Inv X sV σ H s'->RelV (o.getD .non) w'->Q w' s') :
  wpAny (model X.prog X.w) A (call (.builtin "dict.get") [.ref a,u]) Q E s:=by
 rcases g with⟨kvs,k,e,ey,l⟩ | ⟨kvs,k,b,e,ey,eb,l⟩
 ·subst ey;obtain⟨z,hd,vs,rel,dd⟩:=kW I.hok e;refine call_meetsIn Wm dd.typeIs PySem.F.entry_dict_get (PySem.F.args_dict_get_2 _ _) (meets_dict_get (a_ X.prog X.w) a (kU ry) hd) ⟨_,dd.mapOf,h _ _ (I.tok _) ?_⟩;rw[l];exact(rel.val k).getD rfl
 ·subst ey;cases (show u=Tz b from ry);obtain⟨z,hd,xs,rel,dd⟩:=mL I.hok e;refine call_meetsIn Wm dd.typeIs PySem.F.entry_dict_get (PySem.F.args_dict_get_2 _ _) (meetsH_dict_get (tupleKind (a_ X.prog X.w)) a b hd) ⟨tupleKind_room_in1 hu,k,xs,j6 I.hok eb,dd,h _ _ (I.tok _) ?_⟩;rw[l];exact(rel.val k).getD rfl
end
def Cy(td ty:TE):TE:=fun σ H Q=>td σ H fun x H1=>∃a,x=.ref a/\IsD H1 a/\ty σ H1 fun y H2=>∃o,fR H2 a y o/\Q (o.getD .non) H2
def Cz(td ty:TE):TE:=fun σ H Q=>td σ H fun x H1=>∃a,x=.ref a/\IsD H1 a/\ty σ H1 fun y H2=>∃kvs k v,H2 a=some (.dK kvs)/\y=kV k/\gX kvs k=some v/\Q v (upd H2 a (.dK (kT kvs k)))
section
variable{X:Cx}{o e f:Expr}{MX cpos:Pos}{td ty tx:TE}
theorem CA(hu:X.A.units+1<cLine)(ho:PE X o td)(he:PE X e ty)(m:M1 X o "get" MX e cpos):PE X (.Call (.Attribute o "get" MX) [e] [] cpos) (Cy td ty):=by intro sV s σ H Q I h;refine wpAny_Call_method m.base m.few m.line PySem.F.plainAttrs_dict Wm PySem.F.type_dict_get (thn (ho sV s σ H _ I h) fun u s1 ⟨x,H1,I1,rx,a,ex,d,q1⟩=>?_);subst ex;obtain rfl:u=Tz a:=rx;obtain⟨t1,t2,_⟩:=Cw I1 d;refine⟨t1,t2,?_⟩;rw[m.trees];refine V9 rfl (Wq (WM (thn (he sV s1 σ H1 _ I1 q1) fun iv s2 ⟨y,H2,I2,ry,ov,g,q2⟩=>U1 ?_)));exact LR hu I2 g ry fun w' s3 I3 rw'=>⟨_,H2,I3,rw',q2⟩
theorem CB(ho:PE X o td)(he:PE X e ty)(m:M1 X o "pop" MX e cpos):PE X (.Call (.Attribute o "pop" MX) [e] [] cpos) (Cz td ty):=by intro sV s σ H Q I h;refine wpAny_Call_method m.base m.few m.line PySem.F.plainAttrs_dict PySem.F.slot_dict_pop PySem.F.type_dict_pop (thn (ho sV s σ H _ I h) fun u s1 ⟨x,H1,I1,rx,a,ex,d,q1⟩=>?_);subst ex;obtain rfl:u=Tz a:=rx;obtain⟨t1,t2,_⟩:=Cw I1 d;refine⟨t1,t2,?_⟩;rw[m.trees];refine V9 rfl (Wq (WM (thn (he sV s1 σ H1 _ I1 q1) fun iv s2 ⟨y,H2,I2,ry,kvs,k,v,ea,ey,l,q2⟩=>U1 ?_)));subst ey;exact OT I2 ea ry l (.inl rfl) fun w' s3 I3 rw'=>⟨v,_,I3,rw',q2⟩
end
section
variable{X:Cx}{sV:List (Addr×Obj)}{σ:St}{H:Hp}{s:Shared}{a:Addr}{kvs:List (Key×V)}{A:Around}{E:Value->Shared->Prop}
theorem CC{Q:Value->Shared->Prop}(I:Inv X sV σ H s)(e:Rd H a (.dK kvs))(h:∀p s',H p=none->Inv X sV σ (upd H p (.dK kvs)) s'->Q (.ref p) s'):wpAny (model X.prog X.w) A (call (.type "dict") [.ref a]) Q E s:=by obtain⟨z,hd,vs,rel,dd⟩:=kW I.hok e;refine kt_call_dict hd dd (by rw[<- rel.length];exact z) fun h' dd' hs=>?_;refine h _ _ (I.hok.fresh (PU _)) (I.laid (a:=s.heap.objs.size) (o:=.dK kvs) (t':=s.toks) (fun b q hq=>?_) (PU _) (r9 z (beq_eq_false_iff_ne.mpr (Ne.symm (Ti I.big))) rel dd'));exact(hs.2 b (Ti (S9 hq))).trans (Ds _ hq)
end
end L2
namespace Dm
inductive Dat where
 |non
 |bl (b:Bool)
 |int (i:Int)
 |str (s:List Nat)
 |tup (xs:List Dat)
 |lst (xs:List Dat)
 |dct (ks:List Int) (vs:List Dat)
 |exc (C:Nat)
 |fn (a:Nat)
deriving Inhabited
inductive Cell where
 |un
 |sh (d:Dat)
 |ow (d:Dat)
deriving Inhabited
noncomputable abbrev Env:=List Cell
inductive Val where
 |val (d:Dat)
 |slot (i:Nat)
 |new (d:Dat)
inductive RV where
 |val (d:Dat)
 |new (d:Dat)
noncomputable def RV.dat:RV->Dat
 |.val d=>d
 |.new d=>d
noncomputable def RV.bG:RV->Val
 |.val d=>.val d
 |.new d=>.new d
noncomputable def SZ:Nat:=100000
noncomputable def dN:Dat->Bool
 |.tup _=>true
 |.lst _=>true
 |.dct _ _=>true
 |.exc _=>true
 |_=>false
noncomputable def pk(ρ:Env):Val->Option Dat
 |.val d=>some d
 |.new d=>some d
 |.slot i=>match ρ[i]? with
  |some (.ow d)=>some d
  |some (.sh d)=>some d
  |_=>none
noncomputable def tk(ρ:Env):Val->Option (Dat×Env)
 |.val d=>some (d,ρ)
 |.new d=>some (d,ρ)
 |.slot i=>match ρ[i]? with
  |some (.ow d)=>some (d,ρ.set i (.sh d))
  |some (.sh d)=>some (d,ρ)
  |_=>none
noncomputable def pks(ρ:Env):List Val->Option (List Dat)
 |[]=>some []
 |x::r=>match pk ρ x with
  |none=>none
  |some d=>match pks ρ r with
   |none=>none
   |some ds=>some (d::ds)
noncomputable def tks(ρ:Env):List Val->Option (List Dat×Env)
 |[]=>some ([],ρ)
 |x::r=>match tk ρ x with
  |none=>none
  |some (d,ρ1)=>match tks ρ1 r with
   |none=>none
   |some (ds,ρ2)=>some (d::ds,ρ2)
noncomputable abbrev FE:=Env->Option (Val×Env)
noncomputable abbrev FT:=Env->Option (Bool×Env)
noncomputable def eC(d:Dat):FE:=fun ρ=>some (.val d,ρ)
noncomputable def eV(i:Nat):FE:=fun ρ=>match ρ[i]? with
 |some (.sh d)=>some (.val d,ρ)
 |some (.ow _)=>some (.slot i,ρ)
 |_=>none
noncomputable def e1(g:Dat->Option RV)(a:FE):FE:=fun ρ=>match a ρ with
 |none=>none
 |some (x,ρ1)=>match pk ρ1 x with
  |none=>none
  |some d=>match g d with
   |none=>none
   |some v=>some (v.bG,ρ1)
noncomputable def e2(g:Dat->Dat->Option RV)(a b:FE):FE:=fun ρ=>match a ρ with
 |none=>none
 |some (x,ρ1)=>match b ρ1 with
  |none=>none
  |some (y,ρ2)=>match pk ρ2 x with
   |none=>none
   |some d=>match pk ρ2 y with
    |none=>none
    |some e=>match g d e with
     |none=>none
     |some v=>some (v.bG,ρ2)
noncomputable def eAs:List FE->Env->Option (List Val×Env)
 |[],ρ=>some ([],ρ)
 |a::r,ρ=>match a ρ with
  |none=>none
  |some (x,ρ1)=>match eAs r ρ1 with
   |none=>none
   |some (xs,ρ2)=>some (x::xs,ρ2)
noncomputable def eB(g:List Dat->Option RV)(as:List FE):FE:=fun ρ=>match eAs as ρ with
 |none=>none
 |some (xs,ρ1)=>match pks ρ1 xs with
  |none=>none
  |some ds=>match g ds with
   |none=>none
   |some v=>some (v.bG,ρ1)
noncomputable def dj(as:List FE):FE:=fun ρ=>match eAs as ρ with
 |none=>none
 |some (xs,ρ1)=>match tks ρ1 xs with
  |none=>none
  |some (ds,ρ2)=>if ds.length<=SZ then some (.val (.tup ds),ρ2) else none
noncomputable def d9(as:List FE):FE:=fun ρ=>match eAs as ρ with
 |none=>none
 |some (xs,ρ1)=>match tks ρ1 xs with
  |none=>none
  |some (ds,ρ2)=>if ds.length<=SZ then some (.new (.lst ds),ρ2) else none
noncomputable def eF(f:List Dat->Option RV)(as:List FE):FE:=fun ρ=>match eAs as ρ with
 |none=>none
 |some (xs,ρ1)=>match pks ρ1 xs with
  |none=>none
  |some ds=>match f ds with
   |none=>none
   | some v=>if dN v.dat then (match tks ρ1 xs with
     |none=>none
     |some (_,ρ2)=>some (v.bG,ρ2)) else some (v.bG,ρ1)
noncomputable def eIf(t:FT)(a b:FE):FE:=fun ρ=>match t ρ with
 |none=>none
 |some (true,ρ1)=>a ρ1
 |some (false,ρ1)=>b ρ1
noncomputable def lO(a b:FE):FE:=fun ρ=>match a ρ with
 |some (.val (.bl true),ρ1)=>b ρ1
 |some (.val (.bl false),ρ1)=>some (.val (.bl false),ρ1)
 |_=>none
noncomputable def A0(a:FE):FE:=fun ρ=>match a ρ with
 |some (.val (.bl c),ρ1)=>some (.val (.bl (!c)),ρ1)
 |_=>none
noncomputable def tV(a:FE):FT:=fun ρ=>match a ρ with
 |some (.val (.bl c),ρ1)=>some (c,ρ1)
 |_=>none
noncomputable def ez(t:FT):FT:=fun ρ=>match t ρ with
 |some (c,ρ1)=>some (!c,ρ1)
 |none=>none
noncomputable def lJ(t u:FT):FT:=fun ρ=>match t ρ with
 |some (true,ρ1)=>u ρ1
 |some (false,ρ1)=>some (false,ρ1)
 |none=>none
noncomputable def tOr(t u:FT):FT:=fun ρ=>match t ρ with
 |some (true,ρ1)=>some (true,ρ1)
 |some (false,ρ1)=>u ρ1
 |none=>none
noncomputable def truth:Dat->Option Bool
 |.non=>some false
 |.bl b=>some b
 |.int i=>some (i != 0)
 |.tup xs=>some (!xs.isEmpty)
 |.lst xs=>some (!xs.isEmpty)
 |_=>none
noncomputable def tTr(a:FE):FT:=fun ρ=>match a ρ with
 |none=>none
 |some (x,ρ1)=>match pk ρ1 x with
  |none=>none
  |some d=>match truth d with
   |none=>none
   |some c=>some (c,ρ1)
noncomputable def bZ:FT:=fun ρ=>some (true,ρ)
noncomputable abbrev FI:=Env->Option (List Dat×Env)
noncomputable def iL(a:FE):FI:=fun ρ=>match a ρ with
 |none=>none
 |some (x,ρ1)=>match tk ρ1 x with
  |some (.lst ds,ρ2)=>some (ds,ρ2)
  |_=>none
noncomputable def iT(a:FE):FI:=fun ρ=>match a ρ with
 |none=>none
 |some (x,ρ1)=>match tk ρ1 x with
  |some (.tup ds,ρ2)=>some (ds,ρ2)
  |_=>none
noncomputable def iS(a:FE):FI:=fun ρ=>match a ρ with
 |none=>none
 |some (x,ρ1)=>match tk ρ1 x with
  |some (.lst ds,ρ2)=>some (ds,ρ2)
  |some (.tup ds,ρ2)=>some (ds,ρ2)
  |_=>none
noncomputable def ups(lo:Int)(n:Nat):List Dat:=(S3 n).map fun i=>Dat.int (lo+(i:Nat))
noncomputable def downs(hi:Int)(n:Nat):List Dat:=(S3 n).map fun i=>Dat.int (hi-(i:Nat))
noncomputable def BIG:Int:=1000000000
noncomputable def iR1(a:FE):FI:=fun ρ=>match a ρ with
 |some (.val (.int j),ρ1)=>if j<=BIG/\-BIG<=j then some (ups 0 j.toNat,ρ1) else none
 |_=>none
noncomputable def iR2(a b:FE):FI:=fun ρ=>match a ρ with
 | some (.val (.int i),ρ1)=>(match b ρ1 with
  |some (.val (.int j),ρ2)=>if j<=BIG/\-BIG<=j/\i<=BIG/\-BIG<=i then some (ups i (j-i).toNat,ρ2) else none
  |_=>none)
 |_=>none
noncomputable abbrev FB:=Dat->Env->Option Env
noncomputable def bN(i:Nat):FB:=fun d ρ=>if i=0 then none else some (ρ.set i (.sh d))
noncomputable def sets:List Nat->List Dat->Env->Option Env
 |[],[],ρ=>some ρ
 |i::is,d::ds,ρ=>if i=0 then none else sets is ds (ρ.set i (.sh d))
 |_,_,_=>none
noncomputable def bT(is:List Nat):FB:=fun d ρ=>match d with
 |.tup ds=>sets is ds ρ
 |_=>none
noncomputable def cF(bd:FB)(t:FT)(el:FE):List Dat->Env->List Dat->Option (List Dat×Env)
 |[],ρ,tG=>some (tG,ρ)
 |d::r,ρ,tG=>match bd d ρ with
  |none=>none
  |some ρ1=>match t ρ1 with
   |none=>none
   |some (false,ρ2)=>cF bd t el r ρ2 tG
   |some (true,ρ2)=>match el ρ2 with
    |none=>none
    |some (x,ρ3)=>match tk ρ3 x with
     |none=>none
     |some (y,ρ4)=>cF bd t el r ρ4 (tG++[y])
noncomputable def bU(it:FI)(own:Nat)(bd:FB)(t:FT)(el:FE):FE:=fun ρ=>match it ρ with
 |none=>none
 | some (ds,ρ1)=>if ds.length≤SZ then (match cF bd t el ds (ρ1++S5 own .un) [] with
  |none=>none
  |some (ys,ρ2)=>some (.new (.lst ys),ρ2.take ρ1.length)) else none
inductive Out where
 |nx (ρ:Env)
 |ret (r:RV) (ρ:Env)
 |bk (ρ:Env)
 |ct (ρ:Env)
noncomputable abbrev FS:=Env->Option Out
noncomputable def sNx:FS:=fun ρ=>some (.nx ρ)
noncomputable def aF(s u:FS):FS:=fun ρ=>match s ρ with
 |some (.nx ρ1)=>u ρ1
 |o=>o
noncomputable def sA(i:Nat)(e:FE):FS:=fun ρ=>if i=0 then none else match e ρ with
 |none=>none
 |some (.new d,ρ1)=>some (.nx (ρ1.set i (.ow d)))
 |some (x,ρ1)=>match tk ρ1 x with
  |none=>none
  |some (d,ρ2)=>some (.nx (ρ2.set i (.sh d)))
noncomputable def sE(e:FE):FS:=fun ρ=>match e ρ with
 |none=>none
 |some (_,ρ1)=>some (.nx ρ1)
noncomputable def sR(e:FE):FS:=fun ρ=>match e ρ with
 |none=>none
 |some (.new d,ρ1)=>some (.ret (.new d) ρ1)
 |some (.val d,ρ1)=>some (.ret (.val d) ρ1)
 |some (.slot i,ρ1)=>match ρ1[i]? with
  |some (.ow d)=>some (.ret (.new d) (ρ1.set i .un))
  |some (.sh d)=>some (.ret (.val d) ρ1)
  |_=>none
noncomputable def sIf(t:FT)(a b:FS):FS:=fun ρ=>match t ρ with
 |none=>none
 |some (true,ρ1)=>a ρ1
 |some (false,ρ1)=>b ρ1
noncomputable def p9(i:Nat)(e:FE):FS:=fun ρ=>match ρ[i]? with
 | some (.ow (.lst _))=>(match e ρ with
  |none=>none
  |some (x,ρ1)=>match tk ρ1 x with
   |none=>none
   |some (d,ρ2)=>match ρ2[i]? with
    |some (.ow (.lst ds))=>if ds.length<SZ then some (.nx (ρ2.set i (.ow (.lst (ds++[d]))))) else none
    |_=>none)
 |_=>none
noncomputable def ixN(n:Nat)(i:Int):Option Nat:=
 if 0<=i then (if i<n then some i.toNat else none) else if -(n:Int)<=i then some (i+n).toNat else none
noncomputable def xy(i:Nat)(j e:FE):FS:=fun ρ=>match e ρ with
 |none=>none
 |some (x,ρ1)=>match tk ρ1 x with
  |none=>none
  |some (d,ρ2)=>match ρ2[i]? with
   | some (.ow _)=>(match j ρ2 with
    | some (.val (.int k),ρ3)=>(match ρ3[i]? with
     | some (.ow (.lst ds))=>(match ixN ds.length k with
      |none=>none
      |some m=>some (.nx (ρ3.set i (.ow (.lst (ds.set m d))))))
     |_=>none)
    |_=>none)
   |_=>none
noncomputable def j8(bd:FB)(body:FS):List Dat->FS
 |[],ρ=>some (.nx ρ)
 |d::r,ρ=>match bd d ρ with
  |none=>none
  |some ρ1=>match body ρ1 with
   |some (.nx ρ2)=>j8 bd body r ρ2
   |some (.ct ρ2)=>j8 bd body r ρ2
   |some (.bk ρ2)=>some (.nx ρ2)
   |some (.ret v ρ2)=>some (.ret v ρ2)
   |none=>none
noncomputable def fm(it:FI)(bd:FB)(body:FS):FS:=fun ρ=>match it ρ with
 |none=>none
 |some (ds,ρ1)=>j8 bd body ds ρ1
noncomputable def whD(t:FT)(body:FS):Nat->FS
 |0,_=>none
 |n+1,ρ=>match t ρ with
  |none=>none
  |some (false,ρ1)=>some (.nx ρ1)
  |some (true,ρ1)=>match body ρ1 with
   |some (.nx ρ2)=>whD t body n ρ2
   |some (.ct ρ2)=>whD t body n ρ2
   |some (.bk ρ2)=>some (.nx ρ2)
   |some (.ret v ρ2)=>some (.ret v ρ2)
   |none=>none
noncomputable def fn(n m:Nat)(body:FS)(ds:List Dat):Option RV:=if ds.length=n then (match body (ds.map Cell.sh++S5 m .un) with
 |some (.ret r _)=>some r
 |some (.nx _)=>some (.val .non)
 |_=>none) else none
noncomputable def b2i(b:Bool):Int:=if b then 1 else 0
mutual
noncomputable def eqD:Dat->Dat->Bool
 |.non,.non=>true
 |.bl a,.bl b=>a == b
 |.bl a,.int j=>b2i a == j
 |.int i,.bl b=>i == b2i b
 |.int i,.int j=>i == j
 |.str a,.str b=>a == b
 |.tup xs,.tup ys=>jy xs ys
 |.lst xs,.lst ys=>jy xs ys
 |_,_=>false
noncomputable def jy:List Dat->List Dat->Bool
 |[],[]=>true
 |x::xs,y::ys=>eqD x y&&jy xs ys
 |_,_=>false
end
noncomputable def okD:Nat->Dat->Bool
 |_,.dct _ _=>false
 |_,.exc _=>false
 |_,.fn _=>false
 |_,.str s=>s.all fun c=>decide (c<128)
 |0,.tup _=>false
 |0,.lst _=>false
 |n+1,.tup xs=>xs.all (okD n)
 |n+1,.lst xs=>xs.all (okD n)
 |_,_=>true
noncomputable abbrev vB(b:Bool):Option RV:=some (.val (.bl b))
noncomputable def r_(p:Dat->Bool):Dat->Option RV
 |.exc _=>none
 |.fn _=>none
 |d=>vB (p d)
noncomputable abbrev vI(i:Int):Option RV:=some (.val (.int i))
noncomputable def gEq(x y:Dat):Option RV:=if okD 8 x&&okD 8 y then vB (eqD x y) else none
noncomputable def gNe(x y:Dat):Option RV:=if okD 8 x&&okD 8 y then vB (!eqD x y) else none
noncomputable def gLt:Dat->Dat->Option RV
 |.int i,.int j=>vB (decide (i<j))
 |_,_=>none
noncomputable def gLe:Dat->Dat->Option RV
 |.int i,.int j=>vB (decide (i<=j))
 |_,_=>none
noncomputable def gGt:Dat->Dat->Option RV
 |.int i,.int j=>vB (decide (j<i))
 |_,_=>none
noncomputable def gGe:Dat->Dat->Option RV
 |.int i,.int j=>vB (decide (j<=i))
 |_,_=>none
noncomputable def B64:Int:=18446744073709551616
noncomputable def dw:Dat->Dat->Option RV
 |.int i,.int j=>vI (i+j)
 |.lst xs,.lst ys=>if xs.length+ys.length<=SZ then some (.new (.lst (xs++ys))) else none
 |_,_=>none
noncomputable def gQ:Dat->Dat->Option RV
 |.int i,.int j=>vI (i-j)
 |_,_=>none
noncomputable def jz:Dat->Dat->Option RV
 |.int i,.int j=>if (-B64<i/\i<B64)\/(-B64<j/\j<B64) then vI (i*j) else none
 |.lst xs,.int k=>if k<=BIG/\-BIG<=k/\xs.length*k.toNat<=SZ then some (.new (.lst (S5 k.toNat xs).flatten)) else none
 |_,_=>none
noncomputable def jA:Int:=1606938044258990275541962092341162602522202993782792835301376
noncomputable def xA:Dat->Dat->Option RV
 |.int i,.int j=>if 0<j/\j<jA then vI (i / j) else none
 |_,_=>none
noncomputable def lP:Dat->Dat->Option RV
 |.int i,.int j=>if 0<j then vI (i % j) else none
 |_,_=>none
noncomputable def uf:Dat->Dat->Option RV
 |.int i,.int j=>if 0<=j/\j<=1000000/\i.natAbs<1000000 then vI (i ^ j.toNat) else none
 |_,_=>none
noncomputable def A1:Dat->Dat->Option RV
 |.int i,.int j=>if 0<=j then vI (i / 2 ^ j.toNat) else none
 |_,_=>none
noncomputable def CD:Dat->Dat->Option RV
 |.int i,.int j=>if j=1 then vI (i % 2) else none
 |_,_=>none
noncomputable def atI(xs:List Dat)(i:Int):Option Dat:=(ixN xs.length i).bind fun j=>xs[j]?
noncomputable def gIx:Dat->Dat->Option RV
 |.lst xs,.int i=>(atI xs i).map .val
 |.tup xs,.int i=>(atI xs i).map .val
 |_,_=>none
noncomputable def inD(x:Dat)(xs:List Dat):Bool:=xs.any fun y=>eqD y x
noncomputable def gIn:Dat->Dat->Option RV
 |x,.lst xs=>if okD 8 x&&xs.all (okD 7) then vB (inD x xs) else none
 |x,.tup xs=>if okD 8 x&&xs.all (okD 7) then vB (inD x xs) else none
 |_,_=>none
noncomputable def d_:Dat->Dat->Option RV
 |x,.lst xs=>if okD 8 x&&xs.all (okD 7) then vB (!inD x xs) else none
 |x,.tup xs=>if okD 8 x&&xs.all (okD 7) then vB (!inD x xs) else none
 |_,_=>none
noncomputable def cG:List Dat->Option RV
 |[.lst xs]=>vI xs.length
 |[.tup xs]=>vI xs.length
 |_=>none
noncomputable def mP:List Dat->Option RV
 |[.int i,.int j]=>vI (if j<i then j else i)
 |_=>none
noncomputable def mQ:List Dat->Option RV
 |[.int i,.int j]=>vI (if j>i then j else i)
 |_=>none
noncomputable def qC:List Dat->Option RV
 |[.lst xs]=>some (.new (.lst xs))
 |[.tup xs]=>some (.new (.lst xs))
 |_=>none
noncomputable def j9:List Dat->Option RV
 |[.lst xs]=>some (.val (.tup xs))
 |[.tup xs]=>some (.val (.tup xs))
 |_=>none
noncomputable def isI:Dat->Bool
 |.int _=>true
 |.bl _=>true
 |_=>false
noncomputable def isB:Dat->Bool
 |.bl _=>true
 |_=>false
noncomputable def isL:Dat->Bool
 |.lst _=>true
 |_=>false
noncomputable def isT:Dat->Bool
 |.tup _=>true
 |_=>false
noncomputable def bools:List Dat->Option (List Bool)
 |[]=>some []
 |.bl b::r=>(bools r).map fun bs=>b::bs
 |_=>none
noncomputable def ug:List Dat->Option RV
 | [.lst xs]=>(match bools xs with
  |some bs=>vB (bs.all id)
  |none=>none)
 |_=>none
noncomputable def mR(g h:Dat->Dat->Option RV)(a b c:FE):FE:=fun ρ=>match a ρ with
 |none=>none
 |some (x,ρ1)=>match b ρ1 with
  |none=>none
  |some (y,ρ2)=>match pk ρ2 x with
   |none=>none
   |some d=>match pk ρ2 y with
    |none=>none
    |some e=>match g d e with
     | some (.val (.bl true))=>(match c ρ2 with
      |none=>none
      |some (z,ρ3)=>match pk ρ3 y with
       |none=>none
       |some e'=>match pk ρ3 z with
        |none=>none
        |some f=>match h e' f with
         |none=>none
         |some v=>some (v.bG,ρ3))
     |some (.val (.bl false))=>some (.val (.bl false),ρ2)
     |_=>none
end Dm
open Dm(Dat FE RV FT FS)
namespace Br
open PySem L2
mutual
inductive Rep(H:Hp):V->Dat->Prop
 |non:Rep H V.non Dat.non
 |bl (b:Bool):Rep H (V.bl b) (Dat.bl b)
 |int (i:Int):Rep H (V.int i) (Dat.int i)
 |str (s:List Nat):Rep H (V.str ⟨s.toArray⟩) (Dat.str s)
 |tup {a:Addr} {xs:List V} {ds:List Dat}:H a=some (.tup xs)->aD H xs ds->Rep H (V.ref a) (Dat.tup ds)
 |lst {a:Addr} {xs:List V} {ds:List Dat}:Rd H a (.lst xs)->aD H xs ds->Rep H (V.ref a) (Dat.lst ds)
 |dct {a:Addr} {kvs:List (Key×V)} {ks:List Int} {ds:List Dat}:H a=some (.dK kvs)->kvs.map (·.1)=ks.map TU->aD H (kvs.map (·.2)) ds->Rep H (V.ref a) (Dat.dct ks ds)
 |exc {a:Addr} {C:Nat}:H a=some (.ext fun h=>∃o,h.get? a=some o/\o.cls=.ref C)->Rep H (V.ref a) (Dat.exc C)
 |fn (a:Addr):Rep H (V.ref a) (Dat.fn a)
inductive aD(H:Hp):List V->List Dat->Prop
 |nil:aD H [] []
 |cons {v:V} {d:Dat} {vs:List V} {ds:List Dat}:Rep H v d->aD H vs ds->aD H (v::vs) (d::ds)
end
theorem au.rd{H H':Hp}(s:au H H'){a:Addr}{u:HO}(h:Rd H a u):Rd H' a u:=by
 rcases h with h | ⟨o,h⟩
 ·exact .inl (s _ _ h)
 ·exact .inr ⟨o,s _ _ h⟩
mutual
theorem Rep.mono{H H':Hp}(s:au H H'):∀{v:V} {d:Dat},Rep H v d->Rep H' v d
 |_,_,.non=>.non
 |_,_,.bl b=>.bl b
 |_,_,.int i=>.int i
 |_,_,.str x=>.str x
 |_,_,.tup h r=>.tup (s _ _ h) (aD.mono s r)
 |_,_,.lst h r=>.lst (au.rd s h) (aD.mono s r)
 |_,_,.dct h e r=>.dct (s _ _ h) e (aD.mono s r)
 |_,_,.exc h=>.exc (s _ _ h)
 |_,_,.fn a=>.fn a
theorem aD.mono{H H':Hp}(s:au H H'):∀{vs:List V} {ds:List Dat},aD H vs ds->aD H' vs ds
 |_,_,.nil=>.nil
 |_,_,.cons h r=>.cons (Rep.mono s h) (aD.mono s r)
end
section
variable{ρ:Dm.Env}{H0 H:Hp}{d:Dat}{σ:St}{a:Addr}{x:Dm.Val}{v:V}{X:Cx}{t t':TS}{p:Addr}{e:Expr}{o:HO}
theorem aD.length{H:Hp}:∀{vs:List V} {ds:List Dat},aD H vs ds->vs.length=ds.length
 |_,_,.nil=>rfl
 |_,_,.cons _ r=>by simp[aD.length r]
theorem aD.get{H:Hp}:∀{vs:List V} {ds:List Dat} {i:Nat} {d:Dat},aD H vs ds->ds[i]?=some d->∃v,vs[i]?=some v/\Rep H v d
 |_,_,_,_,.nil,e=>by simp at e
 |_,_,0,_,.cons h _,e=>by simp at e;subst e;exact⟨_,rfl,h⟩
 |_,_,i+1,_,.cons _ r,e=>by obtain⟨v,h1,h2⟩:=aD.get (i:=i) r (by simpa using e);exact⟨v,by simpa using h1,h2⟩
theorem aD.OV{H:Hp}:∀{vs:List V} {ds:List Dat} {i:Nat} {v:V},aD H vs ds->vs[i]?=some v->∃d,ds[i]?=some d/\Rep H v d
 |_,_,_,_,.nil,e=>by simp at e
 |_,_,0,_,.cons h _,e=>by simp at e;subst e;exact⟨_,rfl,h⟩
 |_,_,i+1,_,.cons _ r,e=>by obtain⟨v,h1,h2⟩:=aD.OV (i:=i) r (by simpa using e);exact⟨v,by simpa using h1,h2⟩
theorem aD.append{H:Hp}:∀{vs ws:List V} {ds es:List Dat},aD H vs ds->aD H ws es->aD H (vs++ws) (ds++es)
 |_,_,_,_,.nil,s=>s
 |_,_,_,_,.cons h r,s=>.cons h (aD.append r s)
theorem aD.take{H:Hp}:∀{vs:List V} {ds:List Dat} (n:Nat),aD H vs ds->aD H (vs.take n) (ds.take n)
 |_,_,0,_=>by simpa using aD.nil
 |_,_,_+1,.nil=>by simpa using aD.nil
 |_,_,n+1,.cons h r=>by simpa using aD.cons h (aD.take n r)
theorem aD.drop{H:Hp}:∀{vs:List V} {ds:List Dat} (n:Nat),aD H vs ds->aD H (vs.drop n) (ds.drop n)
 |_,_,0,r=>by simpa using r
 |_,_,_+1,.nil=>by simpa using aD.nil
 |_,_,n+1,.cons _ r=>by simpa using aD.drop n r
theorem aD.set{H:Hp}(h:Rep H v d):∀{vs:List V} {ds:List Dat} (i:Nat),aD H vs ds->aD H (vs.set i v) (ds.set i d)
 |_,_,_,.nil=>.nil
 |_,_,0,.cons _ r=>.cons h r
 |_,_,i+1,.cons q r=>.cons q (aD.set h i r)
theorem aD.rep{H:Hp}{vs:List V}{ds:List Dat}(r:aD H vs ds):∀k:Nat,aD H (S5 k vs).flatten (S5 k ds).flatten
 |0=>by simpa using aD.nil
 |k+1=>by rw[UJ,UJ,Uy,Uy];exact aD.append r (aD.rep r k)
def Own(H0 H:Hp)(a:Addr):Dat->Prop
 |.lst ds=>∃xs,H a=some (.lst xs)/\aD H0 xs ds
 |.dct ks ds=>∃kvs:List (Key×V),H a=some (.dK kvs)/\kvs.map (·.1)=ks.map TU/\aD H0 (kvs.map (·.2)) ds
 |_=>False
theorem Own.some(h:Own H0 H a d):∃o,H a=some o:=by
 cases d with
 |lst ds=>obtain⟨xs,e,_⟩:=h;exact⟨_,e⟩
 |dct ks ds=>obtain⟨xs,e,_⟩:=h;exact⟨_,e⟩
 |_=>exact T8 h
theorem Own.mono{H0 H H0' H':Hp}(h:Own H0 H a d)(s:au H0 H0')(e:H' a=H a):Own H0' H' a d:=by
 cases d with
 |lst ds=>obtain⟨xs,q,r⟩:=h;exact⟨xs,by rw[e];exact q,r.mono s⟩
 |dct ks ds=>obtain⟨xs,q,k,r⟩:=h;exact⟨xs,by rw[e];exact q,k,r.mono s⟩
 |_=>exact T8 h
def j_(H0 H:Hp)(v:V)(d:Dat):Prop:=Rep H0 v d\/∃a,v=V.ref a/\Own H0 H a d
inductive qD(H0 H:Hp):List V->List Dat->Prop
 |nil:qD H0 H [] []
 |cons {v:V} {d:Dat} {vs:List V} {ds:List Dat}:j_ H0 H v d->qD H0 H vs ds->qD H0 H (v::vs) (d::ds)
noncomputable def shr(H0 H:Hp)(a:Addr):Hp:=fun b=>if b=a then H a else H0 b
theorem eG:shr H0 H a a=H a:=by unfold shr;rw[if_pos rfl]
theorem gY{a b:Addr}(h:b≠a):shr H0 H a b=H0 b:=by unfold shr;rw[if_neg h]
theorem jB(h:H0 a=none):au H0 (shr H0 H a):=fun b o e=>by
 by_cases q:b=a
 ·subst q;rw[h]at e;cases e
 ·rw[gY q];exact e
theorem zd(s:au H0 H):au (shr H0 H a) H:=fun b o e=>by
 by_cases q:b=a
 ·subst q;rw[eG]at e;exact e
 ·rw[gY q]at e;exact s _ _ e
theorem Own.rep(h:Own H0 H a d)(n:H0 a=none):Rep (shr H0 H a) (V.ref a) d:=by
 cases d with
 |lst ds=>obtain⟨xs,q,r⟩:=h;exact .lst (.inl (by rw[eG];exact q)) (r.mono (jB n))
 |dct ks ds=>obtain⟨xs,q,k,r⟩:=h;exact .dct (by rw[eG];exact q) k (r.mono (jB n))
 |_=>exact T8 h
def ao(σ:St)(ρ:Dm.Env)(a:Addr):Prop:=∃(i:Nat) (d:Dat),ρ[i]?=some (Dm.Cell.ow d)/\σ[i]?=some (some (V.ref a))
noncomputable abbrev Def(_:Dm.Env)(_:Nat):Prop:=True
structure aE(H0 H:Hp)(σ:St)(ρ:Dm.Env):Prop where
 same:au H0 H
 len:σ.length=ρ.length
 sh:∀(i:Nat) (d:Dat),ρ[i]?=some (Dm.Cell.sh d)->∃v,σ[i]?=some (some v)/\Rep H0 v d
 ow:∀(i:Nat) (d:Dat),ρ[i]?=some (Dm.Cell.ow d)->∃a,σ[i]?=some (some (V.ref a))/\H0 a=none/\Own H0 H a d
 dis:∀(i j:Nat) (d e:Dat) (a:Addr),ρ[i]?=some (Dm.Cell.ow d)->ρ[j]?=some (Dm.Cell.ow e)->σ[i]?=some (some (V.ref a))->σ[j]?=some (some (V.ref a))->i=j
structure Stp(O:Addr->Prop)(H0 H H0' H':Hp):Prop where
 s0:au H0 H0'
 s1:∀a o,H a=some o->¬O a->H' a=some o
 s2:∀a o,H0' a=some o->H a=none\/H0 a=some o\/O a
 s3:∀a o,H a=some o->∃o',H' a=some o'
theorem Stp.refl(O:Addr->Prop)(H0 H:Hp):Stp O H0 H H0 H:=⟨au.refl _,fun _ _ e _=>e,fun _ _ e=>.inr (.inl e),fun _ o e=>⟨o,e⟩⟩
theorem Stp.gone{O:Addr->Prop}{H0 H H0' H':Hp}(t:Stp O H0 H H0' H')(h:H' a=none):H a=none:=by
 cases q:H a with
 |none=>rfl
 |some o=>obtain⟨o',e⟩:=t.s3 a o q;rw[h]at e;cases e
theorem Stp.trans{O1 O2:Addr->Prop}{H0 H H1 H' H2 H'':Hp}(t:Stp O1 H0 H H1 H')(u:Stp O2 H1 H' H2 H'')(k:∀a,O2 a->O1 a\/H a=none):Stp O1 H0 H H2 H'' where
 s0:=t.s0.trans u.s0
 s1:=fun a o e n=>u.s1 a o (t.s1 a o e n) fun z=>(k a z).elim n fun q=>by rw[q]at e;cases e
 s2:=fun a o e=>by
  rcases u.s2 a o e with q | q | q
  ·exact .inl (t.gone q)
  ·exact t.s2 a o q
  ·rcases k a q with z | z
   ·exact .inr (.inr z)
   ·exact .inl z
 s3:=fun a o e=>by obtain⟨o',e'⟩:=t.s3 a o e;exact u.s3 a o' e'
theorem Stp.wide{O O':Addr->Prop}{H0 H H0' H':Hp}(t:Stp O H0 H H0' H')(k:∀a,O a->O' a):Stp O' H0 H H0' H':=
 ⟨t.s0,fun a o e n=>t.s1 a o e fun z=>n (k a z),fun a o e=>(t.s2 a o e).imp id (Or.imp id (k a)),t.s3⟩
structure aQ(H0 H H0' H':Hp):Prop where
 s0:au H0 H0'
 s1:au H H'
 s2:∀a o,H0' a=some o->H a=none\/H0 a=some o
 s3:au H0' H'
theorem aQ.refl(s:au H0 H):aQ H0 H H0 H:=⟨au.refl _,au.refl _,fun _ _ e=>.inr e,s⟩
theorem aQ.stp{H0 H H0' H':Hp}(g:aQ H0 H H0' H')(O:Addr->Prop):Stp O H0 H H0' H':=
 ⟨g.s0,fun a o e _=>g.s1 a o e,fun a o e=>(g.s2 a o e).imp id .inl,fun a o e=>⟨o,g.s1 a o e⟩⟩
theorem aQ.CF(s:au H0 H)(n:H p=none):aQ H0 H (upd H0 p o) (upd H p o) where
 s0:=fun b u e=>by rw[aj (aC e (s.free n))];exact e
 s1:=fun b u e=>by rw[aj (aC e n)];exact e
 s2:=fun b u e=>by
  by_cases q:b=p
  ·subst q;exact .inl n
  ·rw[aj q]at e;exact .inr e
 s3:=fun b u e=>by
  by_cases q:b=p
  ·subst q;rw[aq]at e ⊢;exact e
  ·rw[aj q]at e ⊢;exact s _ _ e
theorem aQ.lQ(s:au H0 H)(n:H p=none):aQ H0 H H0 (upd H p o) where
 s0:=au.refl _
 s1:=fun b u e=>by rw[aj (aC e n)];exact e
 s2:=fun b u e=>.inr e
 s3:=fun b u e=>by rw[aj (aC (s _ _ e) n)];exact s _ _ e
def fV(Hs H0 H:Hp)(σ:St)(ρ:Dm.Env)(v:V):Dm.Val->Prop
 |.val d=>Rep H0 v d
 |.slot i=>σ[i]?=some (some v)/\Def ρ i
 |.new d=>∃a,v=V.ref a/\Hs a=none/\¬ao σ ρ a/\H0 a=none/\Own H0 H a d
structure ESt(σ:St)(ρ:Dm.Env)(H0 H:Hp)(ρ':Dm.Env)(H0' H':Hp):Prop where
 st:aE H0' H' σ ρ'
 stp:Stp (ao σ ρ) H0 H H0' H'
 own:∀a,ao σ ρ' a->ao σ ρ a
 dfn:∀i,Def ρ i->Def ρ' i
theorem ESt.refl(st:aE H0 H σ ρ):ESt σ ρ H0 H ρ H0 H:=⟨st,Stp.refl _ _ _,fun _ z=>z,fun _ z=>z⟩
theorem ESt.trans{ρ ρ1 ρ2:Dm.Env}{H0 H H1 H' H2 H'':Hp}(t:ESt σ ρ H0 H ρ1 H1 H')(u:ESt σ ρ1 H1 H' ρ2 H2 H''):ESt σ ρ H0 H ρ2 H2 H'':=
 ⟨u.st,t.stp.trans u.stp fun a z=>.inl (t.own a z),fun a z=>t.own a (u.own a z),fun i z=>u.dfn i (t.dfn i z)⟩
theorem aE.grow{H0 H H0' H':Hp}(st:aE H0 H σ ρ)(g:aQ H0 H H0' H'):aE H0' H' σ ρ where
 same:=g.s3
 len:=st.len
 sh:=fun i d e=>by obtain⟨v,q,r⟩:=st.sh i d e;exact⟨v,q,r.mono g.s0⟩
 ow:=fun i d e=>by
  obtain⟨a,q,n,w⟩:=st.ow i d e;obtain⟨o,z⟩:=w.some;refine⟨a,q,?_,w.mono g.s0 ((g.s1 a o z).trans z.symm)⟩;cases y:H0' a with
  |none=>rfl
  |some u=>
   rcases g.s2 a u y with k | k
   ·rw[z]at k;cases k
   ·rw[n]at k;cases k
 dis:=st.dis
theorem ESt.grow{H0 H H0' H':Hp}(st:aE H0 H σ ρ)(g:aQ H0 H H0' H'):ESt σ ρ H0 H ρ H0' H':=
 ⟨st.grow g,g.stp _,fun _ z=>z,fun _ z=>z⟩
theorem fV.mono{Hs H0 H H0' H':Hp}{ρ ρ':Dm.Env}(r:fV Hs H0 H σ ρ v x)(t:ESt σ ρ H0 H ρ' H0' H'):fV Hs H0' H' σ ρ' v x:=by
 cases x with
 |val d=>exact Rep.mono t.stp.s0 r
 |slot i=>exact⟨r.1,t.dfn i r.2⟩
 |new d=>
  obtain⟨a,e,n,no,n0,w⟩:=r;obtain⟨o,z⟩:=w.some;refine⟨a,e,n,fun y=>no (t.own a y),?_,w.mono t.stp.s0 ((t.stp.s1 a o z no).trans z.symm)⟩;cases y:H0' a with
  |none=>rfl
  |some u=>
   rcases t.stp.s2 a u y with k | k | k
   ·rw[z]at k;cases k
   ·rw[n0]at k;cases k
   ·exact absurd k no
theorem fV.early{Hs Hs' H0 H:Hp}(r:fV Hs H0 H σ ρ v x)(k:∀a,Hs a=none->Hs' a=none):fV Hs' H0 H σ ρ v x:=by
 cases x with
 |val d=>exact r
 |slot i=>exact r
 |new d=>obtain⟨a,e,n,z⟩:=r;exact⟨a,e,k a n,z⟩
theorem fV.look{Hs H0 H:Hp}(r:fV Hs H0 H σ ρ v x)(st:aE H0 H σ ρ)(e:Dm.pk ρ x=some d):j_ H0 H v d:=by
 cases x with
 |val d'=>cases e;exact .inl r
 |new d'=>cases e;obtain⟨a,e,_,_,_,w⟩:=r;exact .inr ⟨a,e,w⟩
 |slot i=>
  obtain⟨q,_⟩:=r;unfold Dm.pk at e;dsimp only at e;split at e
  ·rename_i d' h;cases e;obtain⟨a,z,_,w⟩:=st.ow i d h;rw[q]at z;cases z;exact .inr ⟨a,rfl,w⟩
  ·rename_i d' h;cases e;obtain⟨u,z,w⟩:=st.sh i d h;rw[q]at z;cases z;exact .inl w
  ·cases e
def sd(Hs H0 H:Hp)(v:V):RV->Prop
 |.val d=>Rep H0 v d
 |.new d=>∃a,v=V.ref a/\Hs a=none/\H0 a=none/\Own H0 H a d
theorem sd.toV{H H0' H' H0:Hp}{z:RV}(r:sd H H0' H' v z)(st:aE H0 H σ ρ):fV H H0' H' σ ρ v z.bG:=by
 cases z with
 |val d=>exact r
 |new d=>obtain⟨a,e,n,n0,w⟩:=r;refine⟨a,e,n,fun⟨i,d',h1,h2⟩=>?_,n0,w⟩;obtain⟨a',q,_,w'⟩:=st.ow i d' h1;rw[h2]at q;cases q;obtain⟨o,z⟩:=w'.some;rw[n]at z;cases z
def tD(f:FE):TE:=fun σ H Q=>∃H0 ρ x ρ',aE H0 H σ ρ/\f ρ=some (x,ρ')/\∀v H0' H',ESt σ ρ H0 H ρ' H0' H'->fV H H0' H' σ ρ' v x->Q v H'
def tDT(f:FT):TT:=fun σ H Q=>∃H0 ρ b ρ',aE H0 H σ ρ/\f ρ=some (b,ρ')/\∀H0' H',ESt σ ρ H0 H ρ' H0' H'->Q b H'
inductive dO(Hs H0 H:Hp)(σ:St)(ρ:Dm.Env):List V->List Dm.Val->Prop
 |nil:dO Hs H0 H σ ρ [] []
 |cons {v:V} {x:Dm.Val} {vs:List V} {xs:List Dm.Val}:fV Hs H0 H σ ρ v x->dO Hs H0 H σ ρ vs xs->dO Hs H0 H σ ρ (v::vs) (x::xs)
def tDA(fs:List FE):TA:=fun σ H Q=>∃H0 ρ xs ρ',aE H0 H σ ρ/\Dm.eAs fs ρ=some (xs,ρ')/\∀vs H0' H',ESt σ ρ H0 H ρ' H0' H'->dO H H0' H' σ ρ' vs xs->Q vs H'
noncomputable abbrev DE(X:Cx)(e:Expr)(f:FE):Prop:=PE X e (tD f)
noncomputable abbrev DT(X:Cx)(e:Expr)(f:FT):Prop:=PT X e (tDT f)
noncomputable abbrev DA(X:Cx)(es:List Expr)(fs:List FE):Prop:=PA X es (tDA fs)
theorem PE.weak{t t':TE}(h:PE X e t)(k:∀σ H Q,t' σ H Q->t σ H Q):PE X e t':=fun sV s σ H Q I q=>h sV s σ H Q I (k σ H Q q)
theorem PT.weak{t t':TT}(h:PT X e t)(k:∀σ H Q,t' σ H Q->t σ H Q):PT X e t':=fun sV s σ H Q I q=>h sV s σ H Q I (k σ H Q q)
theorem PA.weak{es:List Expr}{t t':TA}(h:PA X es t)(k:∀σ H Q,t' σ H Q->t σ H Q):PA X es t':=fun pos sV s σ H Q I q=>h pos sV s σ H Q I (k σ H Q q)
theorem PS.weak{st:Stmt}(h:PS X st t)(k:∀D σ H,t' D σ H->t D σ H):PS X st t':=fun sV s σ H D I q=>h sV s σ H D I (k D σ H q)
theorem PSs.weak{st:List Stmt}(h:PSs X st t)(k:∀D σ H,t' D σ H->t D σ H):PSs X st t':=fun sV s σ H D I q=>h sV s σ H D I (k D σ H q)
theorem dG(s:au H0 H):au H0 (shr H0 H a):=fun b o e=>by
 by_cases q:b=a
 ·subst q;rw[eG];exact s _ _ e
 ·rw[gY q];exact e
theorem Own.G1{H0 H0c H:Hp}(h:Own H0 H a d)(b:au H0 H0c)(s:au H0c H):Rep (shr H0c H a) (V.ref a) d:=by
 cases d with
 |lst ds=>obtain⟨xs,q,r⟩:=h;exact .lst (.inl (by rw[eG];exact q)) (r.mono (b.trans (dG s)))
 |dct ks ds=>obtain⟨xs,q,k,r⟩:=h;exact .dct (by rw[eG];exact q) k (r.mono (b.trans (dG s)))
 |_=>exact T8 h
theorem fV.rho{Hs H0 H:Hp}{ρ ρ':Dm.Env}(r:fV Hs H0 H σ ρ v x)(o:∀a,ao σ ρ' a->ao σ ρ a)(d:∀i,Def ρ i->Def ρ' i):fV Hs H0 H σ ρ' v x:=by
 cases x with
 |val d=>exact r
 |slot i=>exact⟨r.1,d i r.2⟩
 |new d=>obtain⟨a,e,n,no,z⟩:=r;exact⟨a,e,n,fun y=>no (o a y),z⟩
theorem dO.rho{Hs H0 H:Hp}{ρ ρ':Dm.Env}(o:∀a,ao σ ρ' a->ao σ ρ a)(d:∀i,Def ρ i->Def ρ' i):∀{vs:List V} {xs:List Dm.Val},dO Hs H0 H σ ρ vs xs->dO Hs H0 H σ ρ' vs xs
 |_,_,.nil=>.nil
 |_,_,.cons h r=>.cons (h.rho o d) (dO.rho o d r)
theorem dO.early{Hs Hs' H0 H:Hp}(k:∀a,Hs a=none->Hs' a=none):∀{vs:List V} {xs:List Dm.Val},dO Hs H0 H σ ρ vs xs->dO Hs' H0 H σ ρ vs xs
 |_,_,.nil=>.nil
 |_,_,.cons h r=>.cons (h.early k) (dO.early k r)
theorem aT{i j:Nat}{c d:Dm.Cell}(h:(ρ.set i c)[j]?=some d):(j=i/\d=c)\/(j≠i/\ρ[j]?=some d):=by
 by_cases e:j=i
 ·subst e;by_cases l:j<ρ.length
  ·rw[TN l]at h;exact .inl ⟨rfl,(Option.some.inj h).symm⟩
  ·rw[Uc (by simpa using U7.mp l)]at h;cases h
 ·rw[HT (Ne.symm e)]at h;exact .inr ⟨e,h⟩
theorem xB{i:Nat}(st:aE H0 H σ ρ)(e:ρ[i]?=some (.ow d))(q:σ[i]?=some (some (V.ref a))) :
  aE (shr H0 H a) H σ (ρ.set i (.sh d))/\(∀b,ao σ (ρ.set i (.sh d)) b->ao σ ρ b)/\∀j,Def ρ j->Def (ρ.set i (.sh d)) j:=by
 obtain⟨a',q',n,w⟩:=st.ow i d e;rw[q]at q';cases q';have hil:i<ρ.length:=(S7.mp e).1;refine⟨⟨zd st.same,by rw[T4];exact st.len,fun j d' h=>?_,fun j d' h=>?_,fun j k d1 d2 b h1 h2 h3 h4=>?_⟩,fun b ⟨j,d',h1,h2⟩=>?_,fun j h=>?_⟩
 ·rcases aT h with⟨rfl,z⟩ | ⟨_,h⟩
  ·cases z;exact⟨_,q,w.rep n⟩
  ·obtain⟨v,z,r⟩:=st.sh j d' h;exact⟨v,z,r.mono (jB n)⟩
 ·rcases aT h with⟨_,z⟩ | ⟨hj,h⟩
  ·cases z
  ·obtain⟨b,z,n',w'⟩:=st.ow j d' h;have nb:b≠a:=fun y=>hj (st.dis j i d' d a h e (y▸z) q);exact⟨b,z,by rw[gY nb];exact n',w'.mono (jB n) rfl⟩
 ·rcases aT h1 with⟨_,z⟩ | ⟨_,h1⟩
  ·cases z
  ·rcases aT h2 with⟨_,z⟩ | ⟨_,h2⟩
   ·cases z
   ·exact st.dis j k d1 d2 b h1 h2 h3 h4
 ·rcases aT h1 with⟨_,z⟩ | ⟨_,h1⟩
  ·cases z
  ·exact⟨j,d',h1,h2⟩
 ·trivial
theorem A2(st:aE H0 H σ ρ)(no:¬ao σ ρ a):aE (shr H0 H a) H σ ρ where
 same:=zd st.same
 len:=st.len
 sh:=fun j d h=>by obtain⟨v,z,r⟩:=st.sh j d h;exact⟨v,z,r.mono (dG st.same)⟩
 ow:=fun j d h=>by obtain⟨b,z,n',w'⟩:=st.ow j d h;have nb:b≠a:=fun y=>no ⟨j,d,h,y▸z⟩;exact⟨b,z,by rw[gY nb];exact n',w'.mono (dG st.same) rfl⟩
 dis:=st.dis
theorem take1{Hs H0s H0 H0c H:Hp}{ρs ρ ρ':Dm.Env}(t:ESt σ ρs H0s Hs ρ H0c H)(b:au H0 H0c)(r:fV Hs H0 H σ ρ v x)(e:Dm.tk ρ x=some (d,ρ')) :
  ∃mS,ESt σ ρs H0s Hs ρ' mS H/\au H0c mS/\Rep mS v d/\(∀a,ao σ ρ' a->ao σ ρ a)/\∀i,Def ρ i->Def ρ' i:=by
 cases x with
 |val d'=>cases e;exact⟨H0c,t,au.refl _,Rep.mono b r,fun _ z=>z,fun _ z=>z⟩
 |new d'=>
  cases e;obtain⟨a,e,n,no,n0,w⟩:=r;subst e;have ss:=dG (a:=a) t.st.same;refine⟨shr H0c H a,⟨A2 t.st no,⟨t.stp.s0.trans ss,t.stp.s1,fun c o q=>?_,t.stp.s3⟩,t.own,t.dfn⟩,ss,w.G1 b t.st.same,fun _ z=>z,fun _ z=>z⟩;by_cases y:c=a
  ·subst y;exact .inl n
  ·rw[gY y]at q;exact t.stp.s2 c o q
 |slot i=>
  obtain⟨q,_⟩:=r;unfold Dm.tk at e;dsimp only at e;split at e
  ·rename_i d' h;cases e;obtain⟨a,z,n,w⟩:=t.st.ow i _ h;rw[q]at z;cases z;obtain⟨s1,s2,s3⟩:=xB t.st h q;have ss:=dG (a:=a) t.st.same;refine⟨shr H0c H a,⟨s1,⟨t.stp.s0.trans ss,t.stp.s1,fun c o q'=>?_,t.stp.s3⟩,fun b z=>t.own b (s2 b z),fun j z=>s3 j (t.dfn j z)⟩,ss,w.G1 (au.refl _) t.st.same,s2,s3⟩;by_cases y:c=a
   ·subst y;exact .inr (.inr (t.own c ⟨i,_,h,q⟩))
   ·rw[gY y]at q';exact t.stp.s2 c o q'
  ·rename_i d' h;cases e;obtain⟨u,z,w⟩:=t.st.sh i _ h;rw[q]at z;cases z;exact⟨H0c,t,au.refl _,w,fun _ z=>z,fun _ z=>z⟩
  ·cases e
theorem takes{Hs H0s H0 H:Hp}{ρs:Dm.Env}:∀{xs:List Dm.Val} {vs:List V} {ρ ρ':Dm.Env} {ds:List Dat} {H0c:Hp},ESt σ ρs H0s Hs ρ H0c H->au H0 H0c->dO Hs H0 H σ ρ vs xs->Dm.tks ρ xs=some (ds,ρ') ->
  ∃mS,ESt σ ρs H0s Hs ρ' mS H/\au H0c mS/\aD mS vs ds
 |[],_,ρ,ρ',ds,H0c,t,b,r,e=>by cases r;cases e;exact⟨H0c,t,au.refl _,.nil⟩
 |x::xs,_,ρ,ρ',ds,H0c,t,b,r,e=>by
  cases r with
  |cons h r=>
   unfold Dm.tks at e;split at e
   ·cases e
   ·rename_i d ρ1 e1;split at e
    ·cases e
    ·rename_i ds' ρ2 e2;cases e;obtain⟨H1,t1,b1,r1,o1,d1⟩:=take1 t b h e1;obtain⟨H2,t2,b2,r2⟩:=takes t1 (b.trans b1) (r.rho o1 d1) e2;exact⟨H2,t2,b1.trans b2,.cons (r1.mono b2) r2⟩
theorem OW{ρ ρ':Dm.Env}(e:Dm.tk ρ x=some (d,ρ'))(y:Dm.Val):Dm.pk ρ' y=Dm.pk ρ y:=by
 cases x with
 |val d'=>cases e;rfl
 |new d'=>cases e;rfl
 |slot i=>
  unfold Dm.tk at e;dsimp only at e;split at e
  ·rename_i d' h;cases e;cases y with
   |val _=>rfl
   |new _=>rfl
   |slot j=>
    unfold Dm.pk;dsimp only;by_cases z:j=i
    ·subst z;rw[TN (S7.mp h).1,h]
    ·rw[HT (Ne.symm z)]
  ·cases e;rfl
  ·cases e
theorem CG(e:Dm.pk ρ x=some d):∃ρ',Dm.tk ρ x=some (d,ρ'):=by
 cases x with
 |val d'=>cases e;exact⟨ρ,rfl⟩
 |new d'=>cases e;exact⟨ρ,rfl⟩
 |slot i=>
  unfold Dm.pk at e;dsimp only at e;unfold Dm.tk;dsimp only;split at e
  ·rename_i d' h;cases e;exact⟨_,rfl⟩
  ·rename_i d' h;cases e;exact⟨_,rfl⟩
  ·cases e
theorem mT:∀{xs:List Dm.Val} {ρ:Dm.Env} {ds:List Dat},Dm.pks ρ xs=some ds->∃ρ',Dm.tks ρ xs=some (ds,ρ')
 |[],ρ,ds,e=>by cases e;exact⟨ρ,rfl⟩
 |x::xs,ρ,ds,e=>by
  unfold Dm.pks at e;split at e
  ·cases e
  ·rename_i d e1;split at e
   ·cases e
   ·rename_i ds' e2;cases e;obtain⟨ρ1,h1⟩:=CG e1;have key:∀ys:List Dm.Val,Dm.pks ρ1 ys=Dm.pks ρ ys:=fun ys=>by
     induction ys with
     |nil=>rfl
     |cons y ys ih=>unfold Dm.pks;rw[OW h1 y,ih]
    obtain⟨ρ2,h2⟩:=mT (xs:=xs) (ρ:=ρ1) (ds:=ds') (by rw[key];exact e2);exact⟨ρ2,by unfold Dm.tks;rw[h1];dsimp only;rw[h2]⟩
theorem looks{Hs H0 H:Hp}(st:aE H0 H σ ρ):∀{xs:List Dm.Val} {vs:List V} {ds:List Dat},dO Hs H0 H σ ρ vs xs->Dm.pks ρ xs=some ds->qD H0 H vs ds
 |[],_,ds,r,e=>by cases r;cases e;exact .nil
 |x::xs,_,ds,r,e=>by
  cases r with
  |cons h r=>
   unfold Dm.pks at e;split at e
   ·cases e
   ·rename_i d e1;split at e
    ·cases e
    ·rename_i ds' e2;cases e;exact .cons (h.look st e1) (looks st r e2)
def OpD(r:R2)(g:Dat->Dat->Option RV):Prop:=∀(H0 H:Hp) (x y:V) (dx dy:Dat) (z:RV) (Q:VK),au H0 H->j_ H0 H x dx->j_ H0 H y dy->g dx dy=some z ->
 (∀v H0' H',aQ H0 H H0' H'->sd H H0' H' v z->Q v H')->r x y H Q
def UnD(r:V->Hp->VK->Prop)(g:Dat->Option RV):Prop:=∀(H0 H:Hp) (x:V) (dx:Dat) (z:RV) (Q:VK),au H0 H->j_ H0 H x dx->g dx=some z ->
 (∀v H0' H',aQ H0 H H0' H'->sd H H0' H' v z->Q v H')->r x H Q
def CallD(r:List V->Hp->VK->Prop)(g:List Dat->Option RV):Prop:=∀(H0 H:Hp) (vs:List V) (ds:List Dat) (z:RV) (Q:VK),au H0 H->qD H0 H vs ds->g ds=some z ->
 (∀v H0' H',aQ H0 H H0' H'->sd H H0' H' v z->Q v H')->r vs H Q
def spD(f:List Dat->Option RV):Sp:=fun vs H Q _=>∃H0 ds z,au H0 H/\aD H0 vs ds/\f ds=some z/\∀v H0' H',aQ H0 H H0' H'->sd H H0' H' v z->Q v H'
end
section
variable{σ:St}{H:Hp}{Q:VK}
section
variable{fs:List FE}{d:Dat}{a b:FE}{t u:FT}{v:V}{H0:Hp}
theorem OX{i:Nat}(h:tD (Dm.eV i) σ H Q):mz i σ H Q:=by
 obtain⟨H0,ρ,x,ρ',st,e,k⟩:=h;unfold Dm.eV at e;split at e
 ·rename_i d h1;cases e;obtain⟨v,q,r⟩:=st.sh i d h1;exact⟨v,q,k v H0 H (.refl st) r⟩
 ·rename_i d h1;cases e;obtain⟨a,q,_⟩:=st.ow i d h1;exact⟨_,q,k _ H0 H (.refl st) ⟨q,trivial⟩⟩
 ·cases e
theorem jC(c:∀H0:Hp,Rep H0 v d)(h:tD (Dm.eC d) σ H Q):tC v σ H Q:=by obtain⟨H0,ρ,x,ρ',st,e,k⟩:=h;cases e;exact k v H0 H (.refl st) (c H0)
theorem xC{r:R2}{g:Dat->Dat->Option RV}{fa fb:FE}(o:OpD r g)(h:tD (Dm.e2 g fa fb) σ H Q):tOp r (tD fa) (tD fb) σ H Q:=by
 obtain⟨H0,ρ,x,ρ',st,e,k⟩:=h;unfold Dm.e2 at e;split at e
 ·cases e
 rename_i x1 ρ1 e1;split at e
 ·cases e
 rename_i y1 ρ2 e2;split at e
 ·cases e
 rename_i dx p1;split at e
 ·cases e
 rename_i dy p2;split at e
 ·cases e
 rename_i z gz;cases e;refine⟨H0,ρ,x1,ρ1,st,e1,fun v H1 Hb t1 r1=>⟨H1,ρ1,y1,_,t1.st,e2,fun u H2 Hc t2 r2=>?_⟩⟩;refine o H2 Hc v u dx dy z Q t2.st.same ((r1.mono t2).look t2.st p1) (r2.look t2.st p2) gz fun w H3 Hd g3 r3=>?_;exact k w H3 Hd (t1.trans (t2.trans (.grow t2.st g3))) ((r3.toV t2.st).early fun a n=>(t1.trans t2).stp.gone n)
theorem RI{r:V->Hp->VK->Prop}{g:Dat->Option RV}{fa:FE}(o:UnD r g)(h:tD (Dm.e1 g fa) σ H Q):tUn r (tD fa) σ H Q:=by
 obtain⟨H0,ρ,x,ρ',st,e,k⟩:=h;unfold Dm.e1 at e;split at e
 ·cases e
 rename_i x1 ρ1 e1;split at e
 ·cases e
 rename_i dx p1;split at e
 ·cases e
 rename_i z gz;cases e;refine⟨H0,ρ,x1,_,st,e1,fun v H1 Hb t1 r1=>?_⟩;refine o H1 Hb v dx z Q t1.st.same (r1.look t1.st p1) gz fun w H3 Hd g3 r3=>?_;exact k w H3 Hd (t1.trans (.grow t1.st g3)) ((r3.toV t1.st).early fun a n=>t1.stp.gone n)
theorem OY{Q:List V->Hp->Prop}(h:tDA [] σ H Q):xu σ H Q:=by obtain⟨H0,ρ,xs,ρ',st,e,k⟩:=h;cases e;exact k [] H0 H (.refl st) .nil
theorem LS{f:FE}{Q:List V->Hp->Prop}(h:tDA (f::fs) σ H Q):qt (tD f) (tDA fs) σ H Q:=by
 obtain⟨H0,ρ,xs,ρ',st,e,k⟩:=h;unfold Dm.eAs at e;split at e
 ·cases e
 rename_i x1 ρ1 e1;split at e
 ·cases e
 rename_i xs1 ρ2 e2;cases e;refine⟨H0,ρ,x1,ρ1,st,e1,fun v H1 Hb t1 r1=>⟨H1,ρ1,xs1,_,t1.st,e2,fun vs H2 Hc t2 r2=>?_⟩⟩;exact k (v::vs) H2 Hc (t1.trans t2) (.cons (r1.mono t2) (r2.early fun a n=>t1.stp.gone n))
theorem G3{r:List V->Hp->VK->Prop}{g:List Dat->Option RV}(o:CallD r g)(h:tD (Dm.eB g fs) σ H Q):tCB r (tDA fs) σ H Q:=by
 obtain⟨H0,ρ,x,ρ',st,e,k⟩:=h;unfold Dm.eB at e;split at e
 ·cases e
 rename_i xs ρ1 e1;split at e
 ·cases e
 rename_i ds p1;split at e
 ·cases e
 rename_i z gz;cases e;refine⟨H0,ρ,xs,_,st,e1,fun vs H1 Hb t1 r1=>?_⟩;refine o H1 Hb vs ds z Q t1.st.same (looks t1.st r1 p1) gz fun w H3 Hd g3 r3=>?_;exact k w H3 Hd (t1.trans (.grow t1.st g3)) ((r3.toV t1.st).early fun a n=>t1.stp.gone n)
theorem jD{n:Nat}(h:n<=Dm.SZ):n<=sizeLine:=Tq h (by decide)
theorem OZ(h:tD (Dm.dj fs) σ H Q):OP (tDA fs) σ H Q:=by
 obtain⟨H0,ρ,x,ρ',st,e,k⟩:=h;unfold Dm.dj at e;split at e
 ·cases e
 rename_i xs ρ1 e1;split at e
 ·cases e
 rename_i ds ρ2 e2;split at e
 ·rename_i hz;cases e;refine⟨H0,ρ,xs,ρ1,st,e1,fun vs H1 Hb t1 r1=>?_⟩;obtain⟨H2,t2,b2,r2⟩:=takes t1 (au.refl _) r1 e2;refine⟨by rw[r2.length];exact jD hz,fun p hp=>?_⟩;have g:=aQ.CF (o:=HO.tup vs) t2.st.same hp;exact k _ _ _ (t2.trans (.grow t2.st g)) (.tup aq (r2.mono g.s0))
 ·cases e
theorem O0(h:tD (Dm.d9 fs) σ H Q):GS (tDA fs) σ H Q:=by
 obtain⟨H0,ρ,x,ρ',st,e,k⟩:=h;unfold Dm.d9 at e;split at e
 ·cases e
 rename_i xs ρ1 e1;split at e
 ·cases e
 rename_i ds ρ2 e2;split at e
 ·rename_i hz;cases e;refine⟨H0,ρ,xs,ρ1,st,e1,fun vs H1 Hb t1 r1=>?_⟩;obtain⟨H2,t2,b2,r2⟩:=takes t1 (au.refl _) r1 e2;refine⟨by rw[r2.length];exact jD hz,fun p hp=>?_⟩;have g:=aQ.lQ (o:=HO.lst vs) t2.st.same hp;refine k _ _ _ (t2.trans (.grow t2.st g)) ⟨p,rfl,t2.stp.gone hp,fun⟨i,d,h1,h2⟩=>?_,t2.st.same.free hp,vs,aq,r2⟩;obtain⟨a,q,_,w⟩:=t2.st.ow i d h1;rw[h2]at q;cases q;obtain⟨o,z⟩:=w.some;rw[hp]at z;cases z
 ·cases e
theorem Rep.plain{H0 H1:Hp}(r:Rep H0 v d)(n:Dm.dN d=false):Rep H1 v d:=by
 cases r with
 |non=>exact .non
 |bl b=>exact .bl b
 |int i=>exact .int i
 |str s=>exact .str s
 |tup _ _=>cases n
 |lst _ _=>cases n
 |dct _ _ _=>cases n
 |exc _=>cases n
 |fn a=>exact .fn a
theorem Own.box{H0 H:Hp}{a:Addr}(w:Own H0 H a d):Dm.dN d=true:=by
 cases d with
 |lst ds=>rfl
 |dct ks ds=>rfl
 |_=>exact T8 w
theorem xD{f:List Dat->Option RV}{E:XK}(h:tD (Dm.eF f fs) σ H Q):mJ (spD f) [] E (tDA fs) σ H Q:=by
 obtain⟨H0,ρ,x,ρ',st,e,k⟩:=h;unfold Dm.eF at e;split at e
 ·cases e
 rename_i xs ρ1 e1;split at e
 ·cases e
 rename_i ds p1;split at e
 ·cases e
 rename_i z fz;refine⟨H0,ρ,xs,ρ1,st,e1,fun vs H1 Hb t1 r1=>?_⟩;dsimp only;rw[Uu];obtain⟨ρ2,e2⟩:=mT p1;obtain⟨H2,t2,b2,r2⟩:=takes t1 (au.refl _) r1 e2;split at e
 ·rw[e2]at e;cases e;exact⟨H2,ds,z,t2.st.same,r2,fz,fun w H3 Hd g3 r3=>k w H3 Hd (t2.trans (.grow t2.st g3)) ((r3.toV t2.st).early fun a n=>t2.stp.gone n)⟩
 ·rename_i nb;cases e;refine⟨H2,ds,z,t2.st.same,r2,fz,fun w H3 Hd g3 r3=>?_⟩;have g:aQ H1 Hb H1 Hd:=⟨au.refl _,g3.s1,fun a o q=>.inr q,t1.st.same.trans g3.s1⟩
  refine k w H1 Hd (t1.trans (.grow t1.st g)) ?_;cases z with
  |val d=>exact Rep.plain r3 (by simpa [RV.dat] using nb)
  |new d=>obtain⟨a,_,_,_,w⟩:=r3;exact absurd w.box (by simpa [RV.dat] using nb)
theorem RJ{t:FT}(h:tD (Dm.eIf t a b) σ H Q):tIf (tDT t) (tD a) (tD b) σ H Q:=by
 obtain⟨H0,ρ,x,ρ',st,e,k⟩:=h;unfold Dm.eIf at e;split at e
 ·cases e
 ·rename_i ρ1 e1;refine⟨H0,ρ,true,ρ1,st,e1,fun H1 Hb t1=>?_⟩;dsimp only;rw[if_pos rfl];exact⟨H1,ρ1,x,ρ',t1.st,e,fun v H2 Hc t2 r2=>k v H2 Hc (t1.trans t2) (r2.early fun a n=>t1.stp.gone n)⟩
 ·rename_i ρ1 e1;refine⟨H0,ρ,false,ρ1,st,e1,fun H1 Hb t1=>?_⟩;dsimp only;rw[if_neg TQ];exact⟨H1,ρ1,x,ρ',t1.st,e,fun v H2 Hc t2 r2=>k v H2 Hc (t1.trans t2) (r2.early fun a n=>t1.stp.gone n)⟩
theorem Rep.se{c:Bool}(r:Rep H0 v (.bl c)):v=.bl c:=by cases r;rfl
theorem Rep.isInt{c:Int}(r:Rep H0 v (.int c)):v=.int c:=by cases r;rfl
theorem O3(h:tD (Dm.lO a b) σ H Q):Jw (tD a) (tD b) σ H Q:=by
 obtain⟨H0,ρ,x,ρ',st,e,k⟩:=h;unfold Dm.lO at e;split at e
 ·rename_i ρ1 e1;refine⟨H0,ρ,_,_,st,e1,fun v H1 Hb t1 r1=>⟨true,Rep.se r1,?_⟩⟩
  try dsimp only
  rw[if_pos rfl];exact⟨H1,ρ1,x,ρ',t1.st,e,fun v H2 Hc t2 r2=>k v H2 Hc (t1.trans t2) (r2.early fun a n=>t1.stp.gone n)⟩
 ·rename_i ρ1 e1;cases e;refine⟨H0,ρ,_,_,st,e1,fun v H1 Hb t1 r1=>⟨false,Rep.se r1,?_⟩⟩
  try dsimp only
  rw[if_neg TQ];exact k _ H1 Hb t1 (Rep.bl false)
 ·cases e
theorem O4{a:FE}(h:tD (Dm.A0 a) σ H Q):Jx (tD a) σ H Q:=by
 obtain⟨H0,ρ,x,ρ',st,e,k⟩:=h;unfold Dm.A0 at e;split at e
 ·rename_i c ρ1 e1;cases e;exact⟨H0,ρ,_,_,st,e1,fun v H1 Hb t1 r1=>⟨c,Rep.se r1,k _ H1 Hb t1 (Rep.bl (!c))⟩⟩
 ·cases e
variable{Qt:Bool->Hp->Prop}
theorem sj{a:FE}(h:tDT (Dm.tV a) σ H Qt):JD (tD a) σ H Qt:=by
 obtain⟨H0,ρ,x,ρ',st,e,k⟩:=h;unfold Dm.tV at e;split at e
 ·rename_i c ρ1 e1;cases e;exact⟨H0,ρ,_,_,st,e1,fun v H1 Hb t1 r1=>⟨_,Rep.se r1,k H1 Hb t1⟩⟩
 ·cases e
theorem LU{t:FT}(h:tDT (Dm.ez t) σ H Qt):ez (tDT t) σ H Qt:=by
 obtain⟨H0,ρ,x,ρ',st,e,k⟩:=h;unfold Dm.ez at e;split at e
 ·rename_i c ρ1 e1;cases e;exact⟨H0,ρ,_,_,st,e1,fun H1 Hb t1=>k H1 Hb t1⟩
 ·cases e
theorem LV(h:tDT (Dm.lJ t u) σ H Qt):lJ (tDT t) (tDT u) σ H Qt:=by
 obtain⟨H0,ρ,x,ρ',st,e,k⟩:=h;unfold Dm.lJ at e;split at e
 ·rename_i ρ1 e1;refine⟨H0,ρ,_,ρ1,st,e1,fun H1 Hb t1=>?_⟩;dsimp only;rw[if_pos rfl];exact⟨H1,ρ1,x,ρ',t1.st,e,fun H2 Hc t2=>k H2 Hc (t1.trans t2)⟩
 ·rename_i ρ1 e1;cases e;refine⟨H0,ρ,_,_,st,e1,fun H1 Hb t1=>?_⟩;dsimp only;rw[if_neg TQ];exact k H1 Hb t1
 ·cases e
theorem O5(h:tDT (Dm.tOr t u) σ H Qt):tOr (tDT t) (tDT u) σ H Qt:=by
 obtain⟨H0,ρ,x,ρ',st,e,k⟩:=h;unfold Dm.tOr at e;split at e
 ·rename_i ρ1 e1;cases e;refine⟨H0,ρ,_,_,st,e1,fun H1 Hb t1=>?_⟩;dsimp only;rw[if_pos rfl];exact k H1 Hb t1
 ·rename_i ρ1 e1;refine⟨H0,ρ,_,ρ1,st,e1,fun H1 Hb t1=>?_⟩;dsimp only;rw[if_neg TQ];exact⟨H1,ρ1,x,ρ',t1.st,e,fun H2 Hc t2=>k H2 Hc (t1.trans t2)⟩
 ·cases e
end
end
section
variable{ρ:Dm.Env}{H0 H:Hp}{σ:L2.St}
structure SSt(σ:St)(ρ:Dm.Env)(H0 H:Hp)(σ':St)(ρ':Dm.Env)(H0' H':Hp):Prop where
 st:aE H0' H' σ' ρ'
 stp:Stp (ao σ ρ) H0 H H0' H'
 own:∀a,ao σ' ρ' a->ao σ ρ a\/H a=none
 fx:σ'[0]?=σ[0]?
theorem ESt.sst{σ:St}{ρ ρ':Dm.Env}{H0 H H0' H':Hp}(t:ESt σ ρ H0 H ρ' H0' H'):SSt σ ρ H0 H σ ρ' H0' H':=⟨t.st,t.stp,fun a z=>.inl (t.own a z),rfl⟩
theorem SSt.refl{σ:St}(st:aE H0 H σ ρ):SSt σ ρ H0 H σ ρ H0 H:=(ESt.refl st).sst
theorem SSt.trans{σ σ1 σ2:St}{ρ ρ1 ρ2:Dm.Env}{H0 H H1 H' H2 H'':Hp}(t:SSt σ ρ H0 H σ1 ρ1 H1 H')(u:SSt σ1 ρ1 H1 H' σ2 ρ2 H2 H''):SSt σ ρ H0 H σ2 ρ2 H2 H'':=
 ⟨u.st,t.stp.trans u.stp t.own,fun a z=>(u.own a z).elim (t.own a) fun n=>.inr (t.stp.gone n),u.fx.trans t.fx⟩
def O6(σ:St)(ρ:Dm.Env)(H H0' H':Hp)(v:V):RV->Prop
 |.val d=>Rep H0' v d
 |.new d=>∃a,v=V.ref a/\(H a=none\/ao σ ρ a)/\H0' a=none/\Own H0' H' a d
def qE(D:Ends)(σ:St)(ρ:Dm.Env)(H0 H:Hp):Dm.Out->Prop
 |.nx ρ'=>∀σ' H0' H',SSt σ ρ H0 H σ' ρ' H0' H'->D.nx σ' H'
 |.bk ρ'=>∀σ' H0' H',SSt σ ρ H0 H σ' ρ' H0' H'->D.bk σ' H'
 |.ct ρ'=>∀σ' H0' H',SSt σ ρ H0 H σ' ρ' H0' H'->D.ct σ' H'
 |.ret z ρ'=>∀σ' v H0' H',SSt σ ρ H0 H σ' ρ' H0' H'->O6 σ ρ H H0' H' v z->(∀d a,z=.new d->v=.ref a->¬ao σ' ρ' a)->D.rt v H'
def tDS(g:FS):TS:=fun D σ H=>∃H0 ρ o,aE H0 H σ ρ/\g ρ=some o/\qE D σ ρ H0 H o
theorem qE.pre{D:Ends}{σ σ1:St}{ρ ρ1:Dm.Env}{H0 H H1 H':Hp}{o:Dm.Out}(t:SSt σ ρ H0 H σ1 ρ1 H1 H')(k:qE D σ ρ H0 H o):qE D σ1 ρ1 H1 H' o:=by
 cases o with
 |nx ρ'=>exact fun σ' H0' H' u=>k σ' H0' H' (t.trans u)
 |bk ρ'=>exact fun σ' H0' H' u=>k σ' H0' H' (t.trans u)
 |ct ρ'=>exact fun σ' H0' H' u=>k σ' H0' H' (t.trans u)
 |ret z ρ'=>
  refine fun σ' v H0' H'' u r no=>k σ' v H0' H'' (t.trans u) ?_ no;cases z with
  |val d=>exact r
  |new d=>
   obtain⟨a,e,n,n0,w⟩:=r;refine⟨a,e,?_,n0,w⟩;rcases n with n | n
   ·exact .inl (t.stp.gone n)
   ·exact(t.own a n).symm
theorem aE.mask(st:aE H0 H σ ρ)(i:Nat):aE H0 H σ (ρ.set i .un) where
 same:=st.same
 len:=by rw[T4];exact st.len
 sh:=fun j d h=>by
  by_cases q:i=j
  ·subst q;rw[VB]at h;simp only[if_true]at h;split at h<;>cases h
  ·rw[HT q]at h;exact st.sh j d h
 ow:=fun j d h=>by
  by_cases q:i=j
  ·subst q;rw[VB]at h;simp only[if_true]at h;split at h<;>cases h
  ·rw[HT q]at h;exact st.ow j d h
 dis:=fun j j' d d' a h1 h2 h3 h4=>by
  by_cases q:i=j
  ·subst q;rw[VB]at h1;simp only[if_true]at h1;split at h1<;>cases h1
  ·by_cases q':i=j'
   ·subst q';rw[VB]at h2;simp only[if_true]at h2;split at h2<;>cases h2
   ·rw[HT q]at h1;rw[HT q']at h2;exact st.dis j j' d d' a h1 h2 h3 h4
theorem cH{i:Nat}{a:Addr}(h:ao σ (ρ.set i .un) a):∃(j:Nat) (d:Dat),j≠i/\ρ[j]?=some (Dm.Cell.ow d)/\σ[j]?=some (some (V.ref a)):=by
 obtain⟨j,d,h1,h2⟩:=h;by_cases q:i=j
 ·subst q;rw[VB]at h1;simp only[if_true]at h1;split at h1<;>cases h1
 ·rw[HT q]at h1;exact⟨j,d,fun z=>q z.symm,h1,h2⟩
end
section
variable{D:Ends}{σ:St}{H:Hp}
theorem RK(h:tDS Dm.sNx D σ H):B7 D σ H:=by obtain⟨H0,ρ,o,st,e,k⟩:=h;cases e;exact k σ H0 H (.refl st)
theorem O7{s u:FS}(h:tDS (Dm.aF s u) D σ H):AG (tDS s) (tDS u) D σ H:=by
 obtain⟨H0,ρ,o,st,e,k⟩:=h;unfold Dm.aF at e;split at e
 ·rename_i ρ1 e1;exact⟨H0,ρ,.nx ρ1,st,e1,fun σ' H0' H' t=>⟨H0',ρ1,o,t.st,e,k.pre t⟩⟩
 ·rename_i h1;cases o with
  |nx ρ1=>exact absurd e (h1 ρ1)
  |bk ρ1=>exact⟨H0,ρ,_,st,e,k⟩
  |ct ρ1=>exact⟨H0,ρ,_,st,e,k⟩
  |ret z ρ1=>exact⟨H0,ρ,_,st,e,k⟩
theorem LW{f:FE}(h:tDS (Dm.sE f) D σ H):tX (tD f) D σ H:=by
 obtain⟨H0,ρ,o,st,e,k⟩:=h;unfold Dm.sE at e;split at e
 ·cases e
 ·rename_i x ρ1 e1;cases e;exact⟨H0,ρ,x,ρ1,st,e1,fun v H0' H' t r=>k σ H0' H' t.sst⟩
theorem O8{f:FE}(h:tDS (Dm.sR f) D σ H):OH (tD f) D σ H:=by
 obtain⟨H0,ρ,o,st,e,k⟩:=h;unfold Dm.sR at e;split at e
 ·cases e
 ·rename_i d ρ1 e1;cases e;refine⟨H0,ρ,_,ρ1,st,e1,fun v H0' H' t r=>?_⟩;obtain⟨a,e,n,no,n0,w⟩:=r;exact k σ v H0' H' t.sst ⟨a,e,.inl n,n0,w⟩ fun d' a' _ e' z=>by rw[e]at e';cases e';exact no z
 ·rename_i d ρ1 e1;cases e;exact⟨H0,ρ,_,ρ1,st,e1,fun v H0' H' t r=>k σ v H0' H' t.sst r fun d' a' z=>by cases z⟩
 ·rename_i i ρ1 e1;split at e
  ·rename_i d h1;cases e;refine⟨H0,ρ,_,ρ1,st,e1,fun v H0' H' t r=>?_⟩;obtain⟨q,_⟩:=r;obtain⟨a,q',n0,w⟩:=t.st.ow i d h1;rw[q]at q';cases q';refine k σ _ H0' H' ⟨t.st.mask i,t.stp,fun b z=>?_,rfl⟩ ⟨a,rfl,.inr (t.own a ⟨i,d,h1,q⟩),n0,w⟩ fun d' a' _ e' z=>?_
   ·obtain⟨j,d2,_,z1,z2⟩:=cH z;exact .inl (t.own b ⟨j,d2,z1,z2⟩)
   ·cases e';obtain⟨j,d2,hj,z1,z2⟩:=cH z;exact hj (t.st.dis j i d2 d a z1 h1 z2 q)
  ·rename_i d h1;cases e;refine⟨H0,ρ,_,ρ1,st,e1,fun v H0' H' t r=>?_⟩;obtain⟨q,_⟩:=r;obtain⟨u,q',w⟩:=t.st.sh i d h1;rw[q]at q';cases q';exact k σ _ H0' H' t.sst w fun d' a' z=>by cases z
  ·cases e
theorem O9{t:FT}{a b:FS}(h:tDS (Dm.sIf t a b) D σ H):Li (tDT t) (tDS a) (tDS b) D σ H:=by
 obtain⟨H0,ρ,o,st,e,k⟩:=h;unfold Dm.sIf at e;split at e
 ·cases e
 ·rename_i ρ1 e1;refine⟨H0,ρ,true,ρ1,st,e1,fun H1 Hb t1=>?_⟩;dsimp only;rw[if_pos rfl];exact⟨H1,ρ1,o,t1.st,e,k.pre t1.sst⟩
 ·rename_i ρ1 e1;refine⟨H0,ρ,false,ρ1,st,e1,fun H1 Hb t1=>?_⟩;dsimp only;rw[if_neg TQ];exact⟨H1,ρ1,o,t1.st,e,k.pre t1.sst⟩
end
section
variable{ρ:Dm.Env}{σ:St}{i:Nat}{H0 H:Hp}{d:Dat}{a:Addr}{b:Addr}{o:HO}{v:V}
theorem fW{i j:Nat}{c d:Option V}(h:(σ.set i c)[j]?=some d):(j=i/\d=c)\/(j≠i/\σ[j]?=some d):=by
 by_cases e:j=i
 ·subst e;by_cases l:j<σ.length
  ·rw[TN l]at h;exact .inl ⟨rfl,(Option.some.inj h).symm⟩
  ·rw[Uc (by simpa using U7.mp l)]at h;cases h
 ·rw[HT (Ne.symm e)]at h;exact .inr ⟨e,h⟩
theorem aE.inσ{c d:Dm.Cell}(st:aE H0 H σ ρ)(h:(ρ.set i c)[i]?=some d):i<σ.length:=by have:=(S7.mp h).1;rw[T4]at this;rw[st.len];exact this
theorem fq(h:ao (σ.set i (some v)) (ρ.set i (.sh d)) b):ao σ ρ b:=by
 obtain⟨j,d',h1,h2⟩:=h;rcases aT h1 with⟨_,z⟩ | ⟨hj,h1⟩
 ·cases z
 ·rcases fW h2 with⟨z,_⟩ | ⟨_,h2⟩
  ·exact absurd z hj
  ·exact⟨j,d',h1,h2⟩
theorem aE.xE(st:aE H0 H σ ρ)(r:Rep H0 v d):aE H0 H (σ.set i (some v)) (ρ.set i (.sh d)) where
 same:=st.same
 len:=by rw[T4,T4];exact st.len
 sh:=fun j d' h=>by
  rcases aT h with⟨rfl,z⟩ | ⟨hj,h'⟩
  ·cases z;exact⟨v,TN (st.inσ h),r⟩
  ·obtain⟨u,q,w⟩:=st.sh j d' h';exact⟨u,by rw[HT (Ne.symm hj)];exact q,w⟩
 ow:=fun j d' h=>by
  rcases aT h with⟨_,z⟩ | ⟨hj,h'⟩
  ·cases z
  ·obtain⟨u,q,w⟩:=st.ow j d' h';exact⟨u,by rw[HT (Ne.symm hj)];exact q,w⟩
 dis:=fun j k d1 d2 b h1 h2 h3 h4=>by
  rcases aT h1 with⟨_,z⟩ | ⟨hj,h1⟩
  ·cases z
  rcases aT h2 with⟨_,z⟩ | ⟨hk,h2⟩
  ·cases z
  rw[HT (Ne.symm hj)]at h3;rw[HT (Ne.symm hk)]at h4;exact st.dis j k d1 d2 b h1 h2 h3 h4
theorem aE.CH(st:aE H0 H σ ρ)(no:¬ao σ ρ a)(n0:H0 a=none)(w:Own H0 H a d):aE H0 H (σ.set i (some (.ref a))) (ρ.set i (.ow d)) where
 same:=st.same
 len:=by rw[T4,T4];exact st.len
 sh:=fun j d' h=>by
  rcases aT h with⟨_,z⟩ | ⟨hj,h'⟩
  ·cases z
  ·obtain⟨u,q,w⟩:=st.sh j d' h';exact⟨u,by rw[HT (Ne.symm hj)];exact q,w⟩
 ow:=fun j d' h=>by
  rcases aT h with⟨rfl,z⟩ | ⟨hj,h'⟩
  ·cases z;exact⟨a,TN (st.inσ h),n0,w⟩
  ·obtain⟨u,q,w⟩:=st.ow j d' h';exact⟨u,by rw[HT (Ne.symm hj)];exact q,w⟩
 dis:=fun j k d1 d2 b h1 h2 h3 h4=>by
  rcases aT h1 with⟨e1,z1⟩ | ⟨hj,h1'⟩
  ·rcases aT h2 with⟨e2,z2⟩ | ⟨hk,h2'⟩
   ·rw[e1,e2]
   ·rcases fW h3 with⟨_,z⟩ | ⟨z,_⟩
    ·cases z;rw[HT (Ne.symm hk)]at h4;exact absurd ⟨k,d2,h2',h4⟩ no
    ·exact absurd e1 z
  ·rcases aT h2 with⟨e2,z2⟩ | ⟨hk,h2'⟩
   ·rcases fW h4 with⟨_,z⟩ | ⟨z,_⟩
    ·cases z;rw[HT (Ne.symm hj)]at h3;exact absurd ⟨j,d1,h1',h3⟩ no
    ·exact absurd e2 z
   ·rw[HT (Ne.symm hj)]at h3;rw[HT (Ne.symm hk)]at h4;exact st.dis j k d1 d2 b h1' h2' h3 h4
theorem sq{a b:Addr}(h:ao (σ.set i (some (.ref a))) (ρ.set i (.ow d)) b):b=a\/ao σ ρ b:=by
 obtain⟨j,d',h1,h2⟩:=h;rcases aT h1 with⟨e,_⟩ | ⟨hj,h1⟩
 ·rcases fW h2 with⟨_,z⟩ | ⟨z,_⟩
  ·cases z;exact .inl rfl
  ·exact absurd e z
 ·rcases fW h2 with⟨z,_⟩ | ⟨_,h2⟩
  ·exact absurd z hj
  ·exact .inr ⟨j,d',h1,h2⟩
theorem aE.write{d d':Dat}(st:aE H0 H σ ρ)(e:ρ[i]?=some (.ow d))(q:σ[i]?=some (some (V.ref a)))(w':Own H0 (upd H a o) a d') :
  aE H0 (upd H a o) σ (ρ.set i (.ow d')):=by
 obtain⟨a',q',n,w⟩:=st.ow i d e;rw[q]at q';cases q';refine⟨fun b u z=>?_,by rw[T4];exact st.len,fun j d1 h=>?_,fun j d1 h=>?_,fun j k d1 d2 b h1 h2 h3 h4=>?_⟩
 ·rw[aj (aC z n)];exact st.same _ _ z
 ·rcases aT h with⟨_,z⟩ | ⟨hj,h'⟩
  ·cases z
  ·exact st.sh j d1 h'
 ·rcases aT h with⟨rfl,z⟩ | ⟨hj,h'⟩
  ·cases z;exact⟨a,q,n,w'⟩
  ·obtain⟨b,q1,n1,w1⟩:=st.ow j d1 h';have nb:b≠a:=fun y=>hj (st.dis j i d1 d a h' e (y▸q1) q);exact⟨b,q1,n1,w1.mono (au.refl _) (aj nb)⟩
 ·have f:∀{j:Nat} {d1:Dat},(ρ.set i (.ow d'))[j]?=some (.ow d1)->∃d2,ρ[j]?=some (.ow d2):=fun {j d1} h=>by
   rcases aT h with⟨rfl,_⟩ | ⟨_,h'⟩
   ·exact⟨d,e⟩
   ·exact⟨d1,h'⟩
  obtain⟨x1,y1⟩:=f h1;obtain⟨x2,y2⟩:=f h2;exact st.dis j k x1 x2 b y1 y2 h3 h4
theorem cu{d d':Dat}(e:ρ[i]?=some (.ow d))(h:ao σ (ρ.set i (.ow d')) b):ao σ ρ b:=by
 obtain⟨j,d1,h1,h2⟩:=h;rcases aT h1 with⟨rfl,_⟩ | ⟨_,h'⟩
 ·exact⟨j,d,e,h2⟩
 ·exact⟨j,d1,h',h2⟩
theorem Stp.write(w:ao σ ρ a):Stp (ao σ ρ) H0 H H0 (upd H a o):=
 ⟨au.refl _,fun b u e n=>by rw [aj (show b≠a from fun z=>n (by rw [z];exact w))];exact e,fun b u e=>.inr (.inl e),fun b u e=>by
  by_cases z:b=a
  ·subst z;exact⟨o,aq⟩
  ·exact⟨u,by rw[aj z];exact e⟩⟩
end
section
variable{D:Ends}{σ:St}{H:Hp}
section
variable{ρ:Dm.Env}{body:FS}{f:FE}{a:Addr}{is:List Nat}{K:Dp}{i:Nat}{ds:List Dat}{d:Dat}{bd:Dm.FB}{xs:List V}{vs:List V}{n:Nat}{H0:Hp}{k:Nat}{fi:Dm.FI}{t:FT}{g:TG}{o:HO}{Q:VK}{E:XK}
theorem CI(h:tDS (Dm.sA i f) D σ H):AH (tD f) (jq i) D σ H:=by
 obtain⟨H0,ρ,o,st,e,k⟩:=h;unfold Dm.sA at e;split at e
 ·cases e
 rename_i hi0;split at e
 ·cases e
 ·rename_i d ρ1 e1;cases e;refine⟨H0,ρ,_,ρ1,st,e1,fun v H0' H' t r=>?_⟩;obtain⟨a,e,n,no,n0,w⟩:=r;subst e;refine k _ H0' H' ⟨t.st.CH no n0 w,t.stp,fun b z=>?_,HT hi0⟩;rcases sq z with rfl | z
  ·exact .inr n
  ·exact .inl (t.own b z)
 ·rename_i x ρ1 _ e1;split at e
  ·cases e
  ·rename_i d ρ2 e2;cases e;refine⟨H0,ρ,_,ρ1,st,e1,fun v H0' H' t r=>?_⟩;obtain⟨H1,t1,b1,r1,_,_⟩:=take1 t (au.refl _) r e2;exact k _ H1 H' ⟨t1.st.xE r1,t1.stp,fun b z=>.inl (t1.own b (fq z)),HT hi0⟩
theorem ze{j:Nat}(h:Def ρ j):Def (ρ.set i (.sh d)) j:=trivial
noncomputable def fX:List Nat->TGs
 |[]=>OJ
 |i::is=>Jz (jq i) (fX is)
theorem zf{H0 H:Hp}{Q:St->Hp->Prop}:∀{is:List Nat} {xs:List V} {ds:List Dat} {σ:St} {ρ ρ':Dm.Env},aE H0 H σ ρ->aD H0 xs ds->Dm.sets is ds ρ=some ρ' ->
  (∀σ',aE H0 H σ' ρ'->(∀a,ao σ' ρ' a->ao σ ρ a)->(∀j,j∉is->σ'[j]?=σ[j]?)->(∀j,Def ρ j->Def ρ' j)->σ'[0]?=σ[0]?->Q σ' H)->fX is xs σ H Q
 |[],_,[],σ,ρ,ρ',st,r,e,k=>by cases r;cases e;exact⟨rfl,k σ st (fun _ z=>z) (fun _ _=>rfl) (fun _ z=>z) rfl⟩
 |i::is,_,d::ds,σ,ρ,ρ',st,r,e,k=>by
  cases r with
  |cons h r=>
   unfold Dm.sets at e;split at e
   ·cases e
   rename_i hi0;refine⟨_,_,rfl,?_⟩;refine zf (st.xE h) r e fun σ' st' o' n' d' f'=>k σ' st' (fun a z=>fq (o' a z)) (fun j hj=>?_) (fun j z=>d' j (ze z)) (f'.trans (HT hi0));rw[n' j fun z=>hj (gc _ z)];exact HT fun z=>hj (by rw[z];exact gV)
 |[],_,_::_,_,_,_,_,_,e,_=>by cases e
 |_::_,_,[],_,_,_,_,_,e,_=>by cases e
theorem uh:∀{is:List Nat} {ds:List Dat} {ρ ρ':Dm.Env},Dm.sets is ds ρ=some ρ'->ds.length=is.length
 |[],[],_,_,_=>rfl
 |i::is,_::ds,_,_,e=>by
  unfold Dm.sets at e;split at e
  ·cases e
  ·simp[uh (is:=is) (ds:=ds) e]
 |[],_::_,_,_,e=>by cases e
 |_::_,[],_,_,e=>by cases e
def BD(is:List Nat)(g:TG)(bd:Dm.FB):Prop:=∀(H0 H:Hp) (σ:St) (ρ ρ':Dm.Env) (x:V) (d:Dat) (Q:St->Hp->Prop),aE H0 H σ ρ->Rep H0 x d->bd d ρ=some ρ' ->
 (∀σ',aE H0 H σ' ρ'->(∀a,ao σ' ρ' a->ao σ ρ a)->(∀j,j∉is->σ'[j]?=σ[j]?)->(∀j,Def ρ j->Def ρ' j)->σ'[0]?=σ[0]?->Q σ' H)->g x σ H Q
theorem zg(i:Nat):BD [i] (jq i) (Dm.bN i):=by
 intro H0 H σ ρ ρ' x d Q st r e k;unfold Dm.bN at e;split at e
 ·cases e
 rename_i hi0;cases e;refine k _ (st.xE r) (fun a z=>fq z) (fun j hj=>?_) (fun j h=>ze h) (HT hi0);exact HT (fun z=>hj (by rw[z];exact Th.mpr rfl))
theorem CJ(is:List Nat)(hn:is.length=n):BD is (OL K n (fX is)) (Dm.bT is):=by
 intro H0 H σ ρ ρ' x d Q st r e k;unfold Dm.bT at e;split at e
 ·cases r with
  |tup q rs=>exact⟨_,_,rfl,SqT.of (st.same _ _ q),by rw[rs.length,uh e,hn],zf st rs e k⟩
 ·cases e
theorem O_(h:tDS (Dm.p9 i f) D σ H):tX (tBM K "list" r8 (mz i) (tDA [f])) D σ H:=by
 obtain⟨H0,ρ,o,st,e,k⟩:=h;unfold Dm.p9 at e;split at e
 ·rename_i ds0 h0;obtain⟨a0,q0,n0,w0⟩:=st.ow i _ h0;refine⟨_,q0,?_⟩;split at e
  ·cases e
  rename_i x ρ1 e1;split at e
  ·cases e
  rename_i d ρ2 e2;split at e
  ·rename_i ds h2;split at e
   ·rename_i hz;cases e;obtain⟨xs0,y0,_⟩:=w0;refine⟨.inl ⟨rfl,xs0,.inl (.inl y0)⟩,?_⟩;refine⟨H0,ρ,[x],ρ1,st,by unfold Dm.eAs;rw[e1];rfl,fun vs H0' H' t r=>?_⟩;cases r with
    |cons r rr=>
     cases rr;obtain⟨H1,t1,b1,r1,_,_⟩:=take1 t (au.refl _) r e2;obtain⟨a,q,n,w⟩:=t1.st.ow i _ h2;rw[q0]at q;cases q;obtain⟨xs,y,rs⟩:=w;refine⟨a0,xs,_,rfl,rfl,y,by rw[rs.length];exact Tj hz (by decide),?_⟩;have ow:ao σ ρ2 a0:=⟨i,_,h2,q0⟩
     refine k σ H1 _ ⟨t1.st.write h2 q0 ⟨_,aq,rs.append (.cons r1 .nil)⟩,t1.stp.trans (Stp.write ow) fun b z=>.inl (t1.own b z),fun b z=>.inl (t1.own b (cu h2 z)),rfl⟩
   ·cases e
  ·cases e
 ·cases e
theorem LX(n:Nat)(i:Int):Dm.ixN n i=L2.ixN n i:=rfl
theorem Pa{j f:FE}(h:tDS (Dm.xy i j f) D σ H):AH (tD f) (gQ (mz i) (tD j) JF) D σ H:=by
 obtain⟨H0,ρ,o,st,e,k⟩:=h;unfold Dm.xy at e;split at e
 ·cases e
 rename_i x ρ1 e1;split at e
 ·cases e
 rename_i d ρ2 e2;split at e
 case h_2=>cases e
 rename_i d0 h2;split at e
 ·rename_i m ρ3 e3;split at e
  ·rename_i ds h3;split at e
   ·cases e
   ·rename_i p e4;cases e;refine⟨H0,ρ,_,ρ1,st,e1,fun v H0' H' t r=>?_⟩;obtain⟨H1,t1,b1,r1,_,_⟩:=take1 t (au.refl _) r e2;obtain⟨a0,q0,_,_⟩:=t1.st.ow i _ h2;refine⟨_,q0,H1,ρ2,_,ρ3,t1.st,e3,fun u H2 Hc t2 r2=>?_⟩;obtain⟨a,q,n,w⟩:=t2.st.ow i _ h3;rw[q0]at q;cases q;obtain⟨xs,y,rs⟩:=w;refine⟨a0,xs,m,p,rfl,Rep.isInt r2,y,by rw[rs.length];exact e4,?_⟩;have ow:ao σ ρ3 a0:=⟨i,_,h3,q0⟩
    have tt:=t1.trans t2;refine k σ H2 _ ⟨t2.st.write h3 q0 ⟨_,aq,rs.set (r1.mono t2.stp.s0) p⟩,tt.stp.trans (Stp.write ow) fun b z=>.inl (tt.own b z),fun b z=>.inl (tt.own b (cu h3 z)),rfl⟩
  ·cases e
 ·cases e
theorem G4(h:tDS (Dm.whD t body n) D σ H):Ca (tDT t) (tDS body) D σ H:=by
 refine⟨fun m σ H=>tDS (Dm.whD t body m) D σ H,⟨n,h⟩,?_⟩;rintro m σ H ⟨H0,ρ,o,st,e,k⟩;cases m with
 |zero=>unfold Dm.whD at e;cases e
 |succ m=>
  unfold Dm.whD at e;split at e
  ·cases e
  ·rename_i ρ1 e1;cases e;refine⟨H0,ρ,false,ρ1,st,e1,fun H1 Hb t1=>?_⟩;dsimp only;rw[if_neg TQ];exact k σ H1 Hb t1.sst
  ·rename_i ρ1 e1;refine⟨H0,ρ,true,ρ1,st,e1,fun H1 Hb t1=>?_⟩;dsimp only;rw[if_pos rfl];refine⟨fun σ' H'=>tDS (Dm.whD t body m) D σ' H',fun σ' H' q=>⟨m,Wf m,q⟩,?_⟩;have k1:=k.pre t1.sst;split at e
   ·rename_i ρ2 e2;exact⟨H1,ρ1,_,t1.st,e2,fun σ' H0' H' t2=>⟨H0',ρ2,o,t2.st,e,k1.pre t2⟩⟩
   ·rename_i ρ2 e2;exact⟨H1,ρ1,_,t1.st,e2,fun σ' H0' H' t2=>⟨H0',ρ2,o,t2.st,e,k1.pre t2⟩⟩
   ·rename_i ρ2 e2;cases e;exact⟨H1,ρ1,_,t1.st,e2,k1⟩
   ·rename_i v ρ2 e2;cases e;exact⟨H1,ρ1,_,t1.st,e2,k1⟩
   ·cases e
def JW(J:It)(H00:Hp)(ys:List Dat):Prop:=∀H0 H,au H00 H0->au H0 H->(∀i,ys.length<=i->J.stop i H) /\
 ∀(i:Nat) (d:Dat),ys[i]?=some d->J.go i H/\∀x H',J.yld i H x H'->∃H0',aQ H0 H H0' H'/\Rep H0' x d
def tDI(fi:Dm.FI):TI:=fun σ H R=>∃H0 ρ ys ρ',aE H0 H σ ρ/\fi ρ=some (ys,ρ')/\∀J H0' H',ESt σ ρ H0 H ρ' H0' H'->JW J H0' ys->R J H'
theorem Pb(hb:BD is g bd)(h:tDS (Dm.fm fi bd body) D σ H):Lo (tDI fi) g (tDS body) D σ H:=by
 obtain⟨H0,ρ,o,st,e,k⟩:=h;unfold Dm.fm at e;split at e
 ·cases e
 rename_i ys ρ1 e1;refine⟨H0,ρ,ys,ρ1,st,e1,fun J H00 Hb t1 jw=>?_⟩;refine ⟨fun i m σ H=>∃ H0 ρ o,aE H0 H σ ρ∧au H00 H0∧m=ys.length-i∧i≤ys.length∧Dm.j8 bd body (ys.drop i) ρ=some o∧qE D σ ρ H0 H o,
  ⟨ys.length,H00,ρ1,o,t1.st,au.refl _,by simp,TM _,by simpa using e,k.pre t1.sst⟩,?_⟩
 rintro i m σ H ⟨H0,ρ,o,st,s00,rfl,hi,e,k⟩;obtain⟨js,jg⟩:=jw H0 H s00 st.same;by_cases En:i<ys.length
 ·have hd:ys[i]?=some ys[i]:=by simp[En]
  obtain⟨g1,g2⟩:=jg i ys[i] hd;rw[Vg En]at e;unfold Dm.j8 at e;refine .inr ⟨g1,fun σ' H'=>∃H0 ρ o,aE H0 H' σ' ρ/\au H00 H0/\Dm.j8 bd body (ys.drop (i+1)) ρ=some o/\qE D σ' ρ H0 H' o,?_,fun x H' y=>?_⟩
  ·rintro σ' H' ⟨H0',ρ',o',h1,h2,h3,h4⟩;exact⟨ys.length-(i+1),by lia,H0',ρ',o',h1,h2,rfl,En,h3,h4⟩
  ·obtain⟨H0',gr,rx⟩:=g2 x H' y;split at e
   ·cases e
   ·rename_i ρ2 e2;have t2:=ESt.grow st gr;refine hb H0' H' σ ρ ρ2 x ys[i] _ t2.st rx e2 fun σ2 st2 o2 _ _ f2=>?_;have t3:SSt σ ρ H0 H σ2 ρ2 H0' H':=⟨st2,t2.stp,fun a z=>.inl (o2 a z),f2⟩
    have k3:=k.pre t3;have s3:au H00 H0':=s00.trans gr.s0;split at e
    ·rename_i ρ3 e3;exact⟨H0',ρ2,_,st2,e3,fun σ4 H4 Hd t4=>⟨H4,ρ3,o,t4.st,s3.trans t4.stp.s0,e,k3.pre t4⟩⟩
    ·rename_i ρ3 e3;exact⟨H0',ρ2,_,st2,e3,fun σ4 H4 Hd t4=>⟨H4,ρ3,o,t4.st,s3.trans t4.stp.s0,e,k3.pre t4⟩⟩
    ·rename_i ρ3 e3;cases e;exact⟨H0',ρ2,_,st2,e3,k3⟩
    ·rename_i v ρ3 e3;cases e;exact⟨H0',ρ2,_,st2,e3,k3⟩
    ·cases e
 ·have e':i=ys.length:=by lia
  subst e';rw[Wg]at e;cases e;exact .inl ⟨js _ (PU _),k σ H0 H (.refl st)⟩
theorem G5(hq:Rd H0 a (.lst xs))(rs:aD H0 xs ds):JW (Itl K a) H0 ds:=by intro H0' H s0 s1;have q:SqL K H a xs:=.inl (au.rd s1 (au.rd s0 hq));refine⟨fun i hi=>⟨xs,q,by rw[rs.length];exact hi⟩,fun i d e=>?_⟩;obtain⟨v,hv,rv⟩:=rs.get e;refine⟨⟨xs,v,q,hv⟩,fun x H' y=>?_⟩;obtain⟨e1,y⟩:=y;subst e1;have z:=y xs q;rw[hv]at z;cases z;exact⟨H0',aQ.refl s1,rv.mono s0⟩
theorem LY(hq:H0 a=some (.tup xs))(rs:aD H0 xs ds):JW (Itt K a) H0 ds:=by intro H0' H s0 s1;have q:SqT K H a xs:=.inl (.inl (s1 _ _ (s0 _ _ hq)));refine⟨fun i hi=>⟨xs,q,by rw[rs.length];exact hi⟩,fun i d e=>?_⟩;obtain⟨v,hv,rv⟩:=rs.get e;refine⟨⟨xs,v,q,hv⟩,fun x H' y=>?_⟩;obtain⟨e1,y⟩:=y;subst e1;have z:=y xs q;rw[hv]at z;cases z;exact⟨H0',aQ.refl s1,rv.mono s0⟩
theorem um{lo:Int}:JW (Itr lo n) H0 (Dm.ups lo n):=by
 intro H0' H s0 s1;have el:(Dm.ups lo n).length=n:=by simp[Dm.ups]
 refine⟨fun i hi=>by rw[el]at hi;exact hi,fun i d e=>?_⟩;have hi:i<n:=by have:=(S7.mp e).1;rw[el]at this;exact this
 have hd:d=.int (lo+i):=by unfold Dm.ups at e;rw[TJ,UK hi]at e;exact(Option.some.inj e).symm
 refine⟨hi,fun x H' y=>?_⟩;obtain⟨rfl,rfl⟩:=y;subst hd;exact⟨H0',aQ.refl s1,.int _⟩
variable{R:It->Hp->Prop}
theorem RL(h:tDI (Dm.iL f) σ H R):tY K (tD f) σ H R:=by
 obtain⟨H0,ρ,ys,ρ',st,e,k⟩:=h;unfold Dm.iL at e;split at e
 ·cases e
 rename_i x ρ1 e1;split at e
 ·rename_i ds ρ2 e2;cases e;refine⟨H0,ρ,_,ρ1,st,e1,fun v H0' H' t r=>?_⟩;obtain⟨H1,t1,b1,r1,_,_⟩:=take1 t (au.refl _) r e2;cases r1 with
  |lst q rs=>exact⟨_,rfl,⟨_,.inl (au.rd t1.st.same q)⟩,k _ H1 H' t1 (G5 q rs)⟩
 ·cases e
theorem RM(h:tDI (Dm.iT f) σ H R):Cc K (tD f) σ H R:=by
 obtain⟨H0,ρ,ys,ρ',st,e,k⟩:=h;unfold Dm.iT at e;split at e
 ·cases e
 rename_i x ρ1 e1;split at e
 ·rename_i ds ρ2 e2;cases e;refine⟨H0,ρ,_,ρ1,st,e1,fun v H0' H' t r=>?_⟩;obtain⟨H1,t1,b1,r1,_,_⟩:=take1 t (au.refl _) r e2;cases r1 with
  |tup q rs=>exact⟨_,rfl,⟨_,.inl (.inl (t1.st.same _ _ q))⟩,k _ H1 H' t1 (LY q rs)⟩
 ·cases e
theorem Pc(h:tDI (Dm.iR1 f) σ H R):JA (tDA [f]) σ H R:=by
 obtain⟨H0,ρ,ys,ρ',st,e,k⟩:=h;unfold Dm.iR1 at e;split at e
 ·rename_i j ρ1 e1;split at e
  ·rename_i hb;cases e;refine⟨H0,ρ,[.val (.int j)],_,st,by unfold Dm.eAs;rw[e1];rfl,fun vs H0' H' t r=>?_⟩;cases r with
   |cons r rr=>cases rr;cases Rep.isInt r;have h1:=hb.1;have h2:=hb.2;unfold Dm.BIG at h1 h2;exact⟨j,rfl,by lia,by lia,k _ H0' H' t um⟩
  ·cases e
 ·cases e
theorem Pd{f g:FE}(h:tDI (Dm.iR2 f g) σ H R):JB (tDA [f,g]) σ H R:=by
 obtain⟨H0,ρ,ys,ρ',st,e,k⟩:=h;unfold Dm.iR2 at e;split at e
 ·rename_i i ρ1 e1;split at e
  ·rename_i j ρ2 e2;split at e
   ·rename_i hb;cases e;refine⟨H0,ρ,[.val (.int i),.val (.int j)],_,st,by unfold Dm.eAs;rw[e1];dsimp only;unfold Dm.eAs;rw[e2];rfl,fun vs H0' H' t r=>?_⟩;cases r with
    |cons r rr=>
     cases rr with
     |cons r' rr=>cases rr;cases Rep.isInt r;cases Rep.isInt r';obtain⟨h1,h2,h3,h4⟩:=hb;unfold Dm.BIG at h1 h2 h3 h4;exact⟨i,j,rfl,⟨by lia,by lia,by lia,by lia⟩,k _ H0' H' t um⟩
   ·cases e
  ·cases e
 ·cases e
def tLC(wi:TI)(own:Nat)(g:TG)(tt:TT)(te:TE):TE:=fun σ H Q=>wi σ H fun J H1=>∀D,H1 D=none->∃W:Nat->Nat->St->Hp->Prop,
 (∃m,W 0 m (σ++S5 own none) (upd H1 D (.lst [])))/\∀i m σ' H',W i m σ' H' ->
  (J.stop i H'∧Q (.ref D) H')∨(J.go i H'∧∀ x H2,J.yld i H' x H2→g x σ' H2 fun σ2 H3=>tt σ2 H3 fun b H4=>if b=true
   then te σ2 H4 fun y H5=>∃tG,H5 D=some (.lst tG)/\tG.length<sizeLine/\∃m',m'<m/\W (i+1) m' σ2 (upd H5 D (.lst (tG++[y])))
   else ∃m',m'<m/\W (i+1) m' σ2 H4)
theorem aE.aside{H0 H:Hp}{σ:St}(st:aE H0 H σ ρ)(n0:H0 a=none)(no:¬ao σ ρ a):aE H0 (upd H a o) σ ρ where
 same:=fun b u z=>by rw[aj (aC z n0)];exact st.same _ _ z
 len:=st.len
 sh:=st.sh
 ow:=fun j d h=>by obtain⟨b,q,n,w⟩:=st.ow j d h;have nb:b≠a:=fun y=>no ⟨j,d,h,y▸q⟩;exact⟨b,q,n,w.mono (au.refl _) (aj nb)⟩
 dis:=st.dis
theorem aE.b7{H0 H:Hp}{σ:St}(st:aE H0 H σ ρ)(h:H a=none):¬ao σ ρ a:=fun⟨i,d,h1,h2⟩=>by obtain⟨b,q,n,w⟩:=st.ow i d h1;rw[h2]at q;cases q;obtain⟨o,z⟩:=w.some;rw[h]at z;cases z
theorem jE{α:Type}{l:List α}{r:List α}{x:α}(h:(l++r)[i]?=some x)(n:x∉r):i<l.length/\l[i]?=some x:=by
 by_cases hi:i<l.length
 ·rw[Tn hi]at h;exact⟨hi,h⟩
 ·rw[TZ (U7.mp hi)]at h;exact absurd (UZ h) n
theorem CK:Dm.Cell.sh d∉S5 k Dm.Cell.un:=fun h=>by have:=List.eq_of_mem_replicate h;cases this
theorem jF:Dm.Cell.ow d∉S5 k Dm.Cell.un:=fun h=>by have:=List.eq_of_mem_replicate h;cases this
theorem aE.ext{H0 H:Hp}{σ:St}(st:aE H0 H σ ρ)(k:Nat):aE H0 H (σ++S5 k none) (ρ++S5 k .un) where
 same:=st.same
 len:=by simp[st.len]
 sh:=fun i d h=>by obtain⟨hi,h⟩:=jE h CK;obtain⟨v,q,r⟩:=st.sh i d h;exact⟨v,by rw[Tn (by rw[st.len];exact hi)];exact q,r⟩
 ow:=fun i d h=>by obtain⟨hi,h⟩:=jE h jF;obtain⟨v,q,r⟩:=st.ow i d h;exact⟨v,by rw[Tn (by rw[st.len];exact hi)];exact q,r⟩
 dis:=fun i j d e a h1 h2 h3 h4=>by obtain⟨hi,h1⟩:=jE h1 jF;obtain⟨hj,h2⟩:=jE h2 jF;rw[Tn (by rw[st.len];exact hi)]at h3;rw[Tn (by rw[st.len];exact hj)]at h4;exact st.dis i j d e a h1 h2 h3 h4
theorem kg{H0 H:Hp}{σ:St}(st:aE H0 H σ ρ)(h:ao (σ++S5 k none) (ρ++S5 k .un) a):ao σ ρ a:=by obtain⟨i,d,h1,h2⟩:=h;obtain⟨hi,h1⟩:=jE h1 jF;rw[Tn (by rw[st.len];exact hi)]at h2;exact⟨i,d,h1,h2⟩
theorem Stp.aside{O:Addr->Prop}{H0 H H0' H':Hp}{D:Addr}(t:Stp O H0 H H0' H')(hD:H D=none):Stp O H0 H H0' (upd H' D o):=
 ⟨t.s0,fun a u e n=>by rw[aj (aC e hD)];exact t.s1 a u e n,t.s2,fun a u e=>by rw[aj (aC e hD)];exact t.s3 a u e⟩
theorem ESt.dP{σ:St}{ρ ρ':Dm.Env}{H0 H H0' H':Hp}(t:ESt σ ρ H0 H ρ' H0' H'){D:Addr}(h:H D=some o)(n0:H0 D=none)(no:¬ao σ ρ D):H' D=some o/\H0' D=none/\¬ao σ ρ' D:=by
 refine⟨t.stp.s1 D o h no,?_,fun z=>no (t.own D z)⟩;cases q:H0' D with
 |none=>rfl
 |some u=>
  rcases t.stp.s2 D u q with z | z | z
  ·rw[h]at z;cases z
  ·rw[n0]at z;cases z
  ·exact absurd z no
def JWa(J:It)(H00:Hp)(pa:Option (Addr×HO))(ys:List Dat):Prop:=∀H0 H,au H00 H0->au H0 H->(∀q,pa=some q->H q.1=some q.2)->(∀i,ys.length<=i->J.stop i H) /\
 ∀(i:Nat) (d:Dat),ys[i]?=some d->J.go i H/\∀x H',J.yld i H x H'->∃H0',aQ H0 H H0' H'/\Rep H0' x d
theorem uo{σ:St}{own:Nat}{t:FT}{el:FE}{Q:VK}{H00 Hb:Hp}{ρ1 ρ2:Dm.Env}{ds ys:List Dat}{J:It}{pa:Option (Addr×HO)}(hb:BD is g bd)(hl:∀i∈is,σ.length<=i)
  (st1:aE H00 Hb σ ρ1) (hp:∀q,pa=some q->Hb q.1=some q.2/\H00 q.1=none/\¬ao σ ρ1 q.1) (jw:JWa J H00 pa ds) (hsz:ds.length<=Dm.SZ) (e2:Dm.cF bd t el ds (ρ1++S5 own .un) []=some (ys,ρ2))
  (k:∀v H0' H',ESt σ ρ1 H00 Hb (ρ2.take ρ1.length) H0' H'->fV Hb H0' H' σ (ρ2.take ρ1.length) v (.new (.lst ys))->(∀q,pa=some q->H' q.1=some q.2/\H0' q.1=none)->Q v H') (D:Addr) (hD:Hb D=none) :
  ∃W:Nat->Nat->St->Hp->Prop,(∃m,W 0 m (σ++S5 own none) (upd Hb D (.lst [])))/\∀i m σ' H',W i m σ' H' ->
  (J.stop i H'∧Q (.ref D) H')∨(J.go i H'∧∀ x H2,J.yld i H' x H2→g x σ' H2 fun σ2 H3=>tDT t σ2 H3 fun b H4=>if b=true
   then tD el σ2 H4 fun y H5=>∃tG,H5 D=some (.lst tG)/\tG.length<sizeLine/\∃m',m'<m/\W (i+1) m' σ2 (upd H5 D (.lst (tG++[y])))
   else ∃m',m'<m/\W (i+1) m' σ2 H4):=by
 have hpD:∀q,pa=some q->q.1≠D:=fun q e z=>by have:=(hp q e).1;rw[z,hD]at this;cases this
 have noD:¬ao σ ρ1 D:=st1.b7 hD;refine ⟨fun i m σ' H'=>∃ (H0c:Hp) (ρc:Dm.Env) (A3:List Dat) (xF:List V),aE H0c H' σ' ρc∧au H00 H0c∧m=ds.length-i∧i≤ds.length∧Dm.cF bd t el (ds.drop i) ρc A3=some (ys,ρ2) ∧
  H' D=some (.lst xF)/\aD H0c xF A3/\H0c D=none/\A3.length<=i/\Stp (ao σ ρ1) H00 Hb H0c H'/\(∀j,j<σ.length->σ'[j]?=σ[j]?)/\(∀a,ao σ' ρc a->ao σ ρ1 a)/\(∀j,Def ρ1 j->Def ρc j)/\(∀q,pa=some q->H' q.1=some q.2/\H0c q.1=none/\¬ao σ' ρc q.1),
  ⟨ds.length,H00,ρ1++S5 own .un,[],[],(st1.aside (st1.same.free hD) noD).ext own,au.refl _,by simp,TM _,by simpa using e2,aq,.nil,st1.same.free hD,TM _,(Stp.refl _ _ _).aside hD,
   fun j hj=>Tn hj,fun a z=>kg st1 z,fun j z=>trivial,fun q e=>⟨by rw[aj (hpD q e)];exact(hp q e).1,(hp q e).2.1,fun z=>(hp q e).2.2 (kg st1 z)⟩⟩,?_⟩
 rintro i m σ' H' ⟨H0c,ρc,A3,xF,sc,s00,rfl,hi,ec,hDl,ra,n0,hal,sp,hσ,ho,hdf,hpc⟩;have nOc:¬ao σ' ρc D:=fun z=>noD (ho D z);obtain⟨js,jg⟩:=jw H0c H' s00 sc.same fun q e=>(hpc q e).1;by_cases En:i<ds.length
 ·have hd:ds[i]?=some ds[i]:=by simp[En]
  obtain⟨g1,g2⟩:=jg i ds[i] hd;rw[Vg En]at ec;unfold Dm.cF at ec;refine .inr ⟨g1,fun y H2 yy=>?_⟩;obtain⟨H0',gr,rx⟩:=g2 y H2 yy;split at ec
  ·cases ec
  rename_i ρ3 e3;have t2:=ESt.grow sc gr;obtain⟨hD2,n02,no2⟩:=t2.dP hDl n0 nOc;have hp2:=fun q e=>t2.dP (hpc q e).1 (hpc q e).2.1 (hpc q e).2.2;refine hb H0' H2 σ' ρc ρ3 y ds[i] _ t2.st rx e3 fun σ3 st3 o3 k3 d3 _=>?_;have no3:¬ao σ3 ρ3 D:=fun z=>no2 (o3 D z);have po3:∀q,pa=some q->¬ao σ3 ρ3 q.1:=fun q e z=>(hp2 q e).2.2 (o3 q.1 z);have hσ3:∀j,j<σ.length->σ3[j]?=σ[j]?:=fun j hj=>(k3 j fun z=>U7.mpr (hl j z) hj).trans (hσ j hj);have ho3:∀a,ao σ3 ρ3 a->ao σ ρ1 a:=fun a z=>ho a (o3 a z);have Pe:∀j,Def ρ1 j->Def ρ3 j:=fun j z=>d3 j (hdf j z);have sp3:Stp (ao σ ρ1) H00 Hb H0' H2:=sp.trans t2.stp fun a z=>.inl (ho a z);have ra3:=ra.mono gr.s0;have s3:au H00 H0':=s00.trans gr.s0;split at ec
  ·cases ec
  ·rename_i ρ4 e4;refine⟨H0',ρ3,false,ρ4,st3,e4,fun LZ H'' t4=>?_⟩;dsimp only;rw[if_neg TQ];obtain⟨hD4,n04,no4⟩:=t4.dP hD2 n02 no3;have hp4:=fun q e=>t4.dP (hp2 q e).1 (hp2 q e).2.1 (po3 q e);exact⟨ds.length-(i+1),by lia,LZ,ρ4,A3,xF,t4.st,s3.trans t4.stp.s0,rfl,En,ec,hD4,ra3.mono t4.stp.s0,n04,Nat.le_succ_of_le hal,sp3.trans t4.stp fun a z=>.inl (ho3 a z),hσ3,fun a z=>ho3 a (t4.own a z),fun j z=>t4.dfn j (Pe j z),hp4⟩
  ·rename_i ρ4 e4;refine⟨H0',ρ3,true,ρ4,st3,e4,fun LZ H'' t4=>?_⟩;dsimp only;rw[if_pos rfl];obtain⟨hD4,n04,no4⟩:=t4.dP hD2 n02 no3;have hp4:=fun q e=>t4.dP (hp2 q e).1 (hp2 q e).2.1 (po3 q e);split at ec
   ·cases ec
   rename_i x5 ρ5 e5;split at ec
   ·cases ec
   rename_i y6 ρ6 e6;refine⟨LZ,ρ4,x5,ρ5,t4.st,e5,fun v H5 Hc t5 r5=>?_⟩;obtain⟨H6,t6,b6,r6,_,_⟩:=take1 t5 (au.refl _) r5 e6;obtain⟨hD6,n06,no6⟩:=t6.dP hD4 n04 no4;have hp6:=fun q e=>t6.dP (hp4 q e).1 (hp4 q e).2.1 (hp4 q e).2.2;refine⟨xF,hD6,?_,ds.length-(i+1),by lia,H6,ρ6,A3++[y6],xF++[v],t6.st.aside n06 no6,(s3.trans t4.stp.s0).trans t6.stp.s0,rfl,En,ec,aq,?_,n06,?_,?_,hσ3,fun a z=>ho3 a (t4.own a (t6.own a z)),fun j z=>t6.dfn j (t4.dfn j (Pe j z)),fun q e=>⟨by rw[aj (hpD q e)];exact(hp6 q e).1,(hp6 q e).2.1,(hp6 q e).2.2⟩⟩
   ·rw[ra.length];unfold Dm.SZ at hsz;exact US (Tq hal (Tq (VP En) hsz)) (by decide)
   ·exact((ra3.mono t4.stp.s0).mono t6.stp.s0).append (.cons r6 .nil)
   ·rw[Tg,UR];lia
   ·exact((sp3.trans t4.stp fun a z=>.inl (ho3 a z)).trans t6.stp fun a z=>.inl (ho3 a (t4.own a z))).aside hD
 ·have e':i=ds.length:=by lia
  subst e';rw[Wg]at ec;cases ec;refine .inl ⟨js _ (PU _),k _ H0c H' ?_ ?_ fun q e=>⟨(hpc q e).1,(hpc q e).2.1⟩⟩
  ·have D9:σ.length<=ρ2.length:=by
    rw[<- sc.len];refine U7.mp fun z=>?_;have q:=hσ σ'.length z;rw[Uc (PU _),Tf z]at q;cases q
   have tk:∀{j:Nat} {c:Dm.Cell},(ρ2.take ρ1.length)[j]?=some c->j<σ.length/\ρ2[j]?=some c:=fun {j c} h=>by
    have hj:j<ρ1.length:=by
     have:=(S7.mp h).1;rw[Uo]at this
     lia
    rw[Vm hj]at h;exact⟨by rw[st1.len];exact hj,h⟩
   have own':∀a,ao σ (ρ2.take ρ1.length) a->ao σ' ρ2 a:=fun a ⟨j,d,h1,h2⟩=>by obtain⟨hj,h1⟩:=tk h1;exact⟨j,d,h1,(hσ j hj).trans h2⟩
   refine⟨⟨sc.same,?_,fun j d h=>?_,fun j d h=>?_,fun j j' d d' a h1 h2 h3 h4=>?_⟩,sp,fun a z=>ho a (own' a z),fun j z=>?_⟩
   ·rw[Uo,<- st1.len];lia
   ·obtain⟨hj,h⟩:=tk h;obtain⟨v,q,r⟩:=sc.sh j d h;exact⟨v,(hσ j hj).symm.trans q,r⟩
   ·obtain⟨hj,h⟩:=tk h;obtain⟨v,q,r⟩:=sc.ow j d h;exact⟨v,(hσ j hj).symm.trans q,r⟩
   ·obtain⟨hj,h1⟩:=tk h1;obtain⟨hj',h2⟩:=tk h2;exact sc.dis j j' d d' a h1 h2 ((hσ j hj).trans h3) ((hσ j' hj').trans h4)
   ·trivial
  ·refine⟨D,rfl,hD,fun⟨j,d,h1,h2⟩=>?_,n0,xF,hDl,ra⟩;have hj:j<ρ1.length:=by
    have:=(S7.mp h1).1;rw[Uo]at this
    lia
   rw[Vm hj]at h1;exact nOc ⟨j,d,h1,(hσ j (by rw[st1.len];exact hj)).trans h2⟩
theorem xG{own:Nat}{el:FE}(hb:BD is g bd)(hl:∀i∈is,σ.length<=i)(h:tD (Dm.bU fi own bd t el) σ H Q) :
  tLC (tDI fi) own g (tDT t) (tD el) σ H Q:=by
 obtain⟨H0,ρ,x,ρ',st,e,k⟩:=h;unfold Dm.bU at e;split at e
 ·cases e
 rename_i ds ρ1 e1;split at e
 case isFalse=>cases e
 rename_i hsz;split at e
 ·cases e
 rename_i ys ρ2 e2;cases e;refine⟨H0,ρ,ds,ρ1,st,e1,fun J H00 Hb t1 jw D hD=>uo (pa:=none) hb hl t1.st (fun q e=>by cases e) (fun H0 H s0 s1 _=>jw H0 H s0 s1) hsz e2 (fun v H0' H' t2 r2 _=>k v H0' H' (t1.trans t2) (r2.early fun a n=>t1.stp.gone n)) D hD⟩
theorem kh{n m:Nat}{H:Hp}(h:spD (Dm.fn n m body) vs H Q E):vs.length=n:=by
 obtain⟨H0,ds,z,s,rs,e,k⟩:=h;unfold Dm.fn at e;split at e
 ·rename_i hl;rw[rs.length];exact hl
 ·cases e
theorem CL{N:List Str}{n m:Nat}(hm:N.length=n+m)(h:spD (Dm.fn n m body) vs H Q E) :
  tDS body { nx:=fun _ H'=>Q .non H',rt:=Q } (start N vs) H:=by
 have hvn:=kh h;obtain⟨H0,ds,z,s,rs,e,k⟩:=h;have hl:=rs.length;have no:∀a,¬ao (start N vs) (ds.map Dm.Cell.sh++S5 m .un) a:=fun a ⟨i,d,h1,_⟩=>by
  by_cases hi:i<ds.length
  ·rw[Tn (by simpa using hi),TJ]at h1;cases q:ds[i]? with
   |none=>rw[q]at h1;cases h1
   |some y=>rw[q]at h1;cases h1
  ·rw[TZ (by simpa using hi),Uq]at h1;split at h1<;>cases h1
 have st:aE H0 H (start N vs) (ds.map Dm.Cell.sh++S5 m .un):=by
  refine⟨s,?_,fun i d h=>?_,fun i d h=>?_,fun i j d e a h1 h2 _ _=>?_⟩
  ·unfold L2.start;simp only[Tg,Dk,VE]
   lia
  ·have hi:i<ds.length:=by
    by_cases hi:i<ds.length
    ·exact hi
    ·rw[TZ (by simpa using hi),Uq]at h;split at h<;>cases h
   rw[Tn (by simpa using hi),TJ]at h;cases q:ds[i]? with
   |none=>rw[q]at h;cases h
   |some y=>rw[q]at h;cases h;obtain⟨v,hv,r⟩:=rs.get q;refine⟨v,?_,r⟩;unfold L2.start;rw[Tn (by simpa [hl] using hi),TJ,hv];rfl
  ·by_cases hi:i<ds.length
   ·rw[Tn (by simpa using hi),TJ]at h;cases q:ds[i]? with
    |none=>rw[q]at h;cases h
    |some y=>rw[q]at h;cases h
   ·rw[TZ (by simpa using hi),Uq]at h;split at h<;>cases h
  ·by_cases hi:i<ds.length
   ·rw[Tn (by simpa using hi),TJ]at h1;cases q:ds[i]? with
    |none=>rw[q]at h1;cases h1
    |some y=>rw[q]at h1;cases h1
   ·rw[TZ (by simpa using hi),Uq]at h1;split at h1<;>cases h1
 have gr:∀{H0' H'},Stp (ao (start N vs) (ds.map Dm.Cell.sh++S5 m .un)) H0 H H0' H'->au H0' H'->aQ H0 H H0' H':=fun {H0' H'} t ss=>⟨t.s0,fun a o e=>t.s1 a o e (no a),fun a o e=>(t.s2 a o e).imp id fun q=>q.elim id fun z=>absurd z (no a),ss⟩
 unfold Dm.fn at e;rw[if_pos (by rw[<- hl];exact hvn)]at e;split at e
 ·rename_i r ρ' e1;cases e;refine⟨H0,_,_,st,e1,fun σ' v H0' H' t r _=>k v H0' H' (gr t.stp t.st.same) ?_⟩;cases z with
  |val d=>exact r
  |new d=>obtain⟨a,e,n,n0,w⟩:=r;exact⟨a,e,n.elim id fun z=>absurd z (no a),n0,w⟩
 ·rename_i ρ' e1;cases e;exact⟨H0,_,_,st,e1,fun σ' H0' H' t=>k _ H0' H' (gr t.stp t.st.same) .non⟩
 ·cases e
end
end
open PySem PySem.Spec PyProof.Rows L2
noncomputable def bf(X:Cx)(nm:List Str)(scope:Scope)(own:List Str)(cl:List (Str×Addr))(C:Addr)(s:Shared)(H:Hp)(fp:List Addr):Cx where
 prog:=X.prog
 w:=X.w
 K:=X.K
 mg:=X.mg
 base:=X.base
 A:=X.A
 N:=nm++own
 s₀:=s
 H₀:=H
 env:=compEnvC scope cl C X.env
 outer:=X.stack
 stack:=X.stack
 ex:=fp
 fn:=fun _=>false
 calm:=X.calm
 pn:=[]
 xe:=fun _ _=>False
def PTs(X:Cx)(J3:List Expr)(t:TT):Prop:=
 ∀(sV:List (Addr×Obj)) (s:Shared) (σ:L2.St) (H:Hp) (Q:Bool->Hp->Prop),Inv X sV σ H s->t σ H Q ->
  wpAny (model X.prog X.w) X.A (forIn J3 true fun c r=>if r=true then do let ok <- isTrue c X.env (eval c X.env);pure (U0 ok) else pure (U0 r)) (TP X sV σ Q) X.xe s
def G6:TT:=fun _ H Q=>Q true H
theorem zh{X:Cx}:PTs X [] G6:=fun sV s σ H Q I h=>wpAny_tests_nil ⟨H,I,h⟩
theorem G7{X:Cx}{c:Expr}{t:TT}(h:PT X c t):PTs X [c] t:=fun sV s σ H Q I hq=>wpAny_tests_one (h sV s σ H Q I hq)
theorem ee(env:Env):∀(names:List (Str×NameKind)) (cs:List (Str×Addr)),(∀y∈names,y.2=.free->∃c,env.cells.lookup y.1=some c) ->
  ∃cl,(forIn names cs fun(x:Str×NameKind) (r:List (Str×Addr))=>(if (x.2 == NameKind.free)=true then do let c <- cellOf env x.1;pure (U0 ((x.1,c)::r)) else pure (U0 r):Sem (ForInStep (List (Str×Addr)))))=pure cl /\
   (∀x c,cl.lookup x=some c->env.cells.lookup x=some c\/cs.lookup x=some c)/\(∀y∈names,y.2=.free->∃c,cl.lookup y.1=some c)/\(∀x c,cs.lookup x=some c->∃c',cl.lookup x=some c')
 |[],cs,_=>⟨cs,rfl,fun _ _ h=>.inr h,fun _ h=>(nomatch h),fun _ c h=>⟨c,h⟩⟩
 |(n,k)::r,cs,h=>by
  have hr:∀y∈r,y.2=.free->∃c,env.cells.lookup y.1=some c:=fun y hy=>h y (gc _ hy);by_cases hk:k=.free
  ·subst hk;obtain⟨c,hc⟩:=h (n,.free) gV rfl;obtain⟨cl,e,h1,h2,h3⟩:=ee env r ((n,c)::cs) hr;refine⟨cl,?_,fun x c' q=>?_,fun y hy hf=>?_,fun x c' q=>?_⟩
   ·rw[W9];have e1:cellOf env n=pure c:=by unfold cellOf;rw[hc]
    simp only[beq_self_eq_true,if_true,e1,pure_bind];exact e
   ·rcases h1 x c' q with z | z
    ·exact .inl z
    ·rw[Ui]at z;cases hx:x == n with
     |true=>
      rw[hx]at z;have:x=n:=by simpa using hx
      subst this;injection z with z
      subst z;exact .inl hc
     |false=>rw[hx]at z;exact .inr z
   ·rcases S4.mp hy with rfl | hy
    ·exact h3 n c (by rw[Ui,beq_self_eq_true])
    ·exact h2 y hy hf
   ·by_cases hx:x=n
    ·subst hx;exact h3 x c (by rw[Ui,beq_self_eq_true])
    ·have hx':(x == n)=false:=by simpa using hx
     exact h3 x c' (by rw[Ui,hx'];exact q)
  ·have hb:(k == NameKind.free)=false:=by simpa using hk
   obtain⟨cl,e,h1,h2,h3⟩:=ee env r cs hr;refine⟨cl,?_,h1,fun y hy hf=>?_,h3⟩
   ·rw[W9];simp only[hb,Tc,if_false,pure_bind];exact e
   ·rcases S4.mp hy with rfl | hy
    ·exact absurd hf hk
    ·exact h2 y hy hf
theorem mU{env:Env}{scope:Scope}(h:∀y∈scope.names,y.2=.free->∃c,env.cells.lookup y.1=some c) :
  ∃cl,closureFor scope env=pure cl/\(∀x c,cl.lookup x=some c->env.cells.lookup x=some c)/\∀y∈scope.names,y.2=.free->∃c,cl.lookup y.1=some c:=by
 obtain⟨cl,e,h1,h2,_⟩:=ee env scope.names [] h;refine⟨cl,?_,fun x c q=>(h1 x c q).elim id fun z=>by simp at z,h2⟩;unfold closureFor;have e':(forIn scope.names ([]:List (Str×Addr)) fun(x:Str×NameKind) (r:List (Str×Addr))=>(if (x.2 == NameKind.free)=true then do let c <- cellOf env x.1;pure (U0 ((x.1,c)::r)) else pure (U0 r):Sem (ForInStep (List (Str×Addr)))))=pure cl:=e
 first
  |(rw[show (forIn scope.names ([]:List (Str×Addr)) _:Sem (List (Str×Addr)))=pure cl from e'];rfl)
  |(simp only[e'];rfl)
theorem sr{prog:Program}{w:World}{A:Around}{R:Result->Shared->Prop}{s:Shared}{MY target iter:Expr}{J3:List Expr}{scope:Scope}{pos:Pos}{it tG:Value}{env:Env}(I:Nat->Shared->Prop)
  (turn:∀ n s,I n s→wpAny (model prog w) A (pyNext it) (fun r s₁=>match r with
   |none=>R (.ok .next) s₁
   | some v=>wpAny (model prog w) A (letOwnedTupleGo target it v) (fun _ s₁'=>wpAny (model prog w) A (assign target env v) (fun _ s₂=>
     wpAny (model prog w) A (forIn J3 true fun c r=>if r=true then do let ok ← isTrue c env (eval c env);pure (U0 ok) else pure (U0 r)) (fun ok s₃=>
      if ok=true then wpAny (model prog w) A (eval MY env) (fun x s₄=>wpAny (model prog w) A (call (.builtin "list.append") [tG,x]) (fun _ s₅=>∃m,m<n/\I m s₅) (fun _ _=>False) s₄) (fun _ _=>False) s₃
      else ∃m,m<n/\I m s₃) (fun _ _=>False) s₂) (fun _ _=>False) s₁') (fun _ _=>False) s₁) (fun _ _=>False) s)
  (n:Nat) (h:I n s) :
  codeAny (model prog w) A (.compLoop (.ListComp MY [⟨target,iter,J3,0⟩] scope pos) 0 it tG env) R s:=by
 have no:∀{P:Value->Shared->Prop} (x:Value) (s':Shared),False->P x s':=fun _ _ f=>f.elim;refine codeAny_loop rfl I (fun n s hI=>?_) n h;show wpAny _ A ((compTurn (.ListComp MY [⟨target,iter,J3,0⟩] scope pos) 0 it tG env).onRaise (fun x=>do noteFrame x env;theTreesLotGoes x)) _ _ s;refine wpAny_noted ?_;rw[compTurn_list];refine wpAny_bind (wpAny_standAt (wpAny_bind (wpAny_mono (turn n s hI) (fun r s₁ h₁=>?_) no)));cases r with
 |none=>exact wpAny_pure h₁
 |some v=>
  refine wpAny_bind (wpAny_mono h₁ (fun _ s₁' h₁'=>?_) no);refine wpAny_bind (wpAny_mono h₁' (fun _ s₂ h₂=>wpAny_bind (wpAny_mono h₂ (fun ok s₃ h₃=>?_) no)) no);cases ok with
  |false=>exact wpAny_pure ⟨rfl,h₃⟩
  |true=>exact wpAny_bind (wpAny_bind (wpAny_mono h₃ (fun x s₄ h₄=>wpAny_bind (wpAny_mono h₄ (fun _ s₅ h₅=>wpAny_pure (wpAny_pure ⟨rfl,h₅⟩)) no)) no))
theorem cO(env:Env):∀(names:List (Str×NameKind)) (x:Str) (k:NameKind),
  (names.map fun(n,k)=>if (k == NameKind.free&&env.scope.kind == .function&&env.kindOf n == some .cell) then (n,Xp) else (n,k)).lookup x=some k ->
  ∃k0,names.lookup x=some k0/\(k=k0\/(k0=.free/\k=.cell))
 |[],x,k,h=>by simp at h
 |(n,k1)::r,x,k,h=>by
  have h:List.lookup x ((if (k1 == NameKind.free&&env.scope.kind == .function&&env.kindOf n == some .cell)=true then (n,Xp) else (n,k1))::r.map fun(n,k)=>if (k == NameKind.free&&env.scope.kind == .function&&env.kindOf n == some .cell) then (n,Xp) else (n,k))=some k:=h;cases hx:x == n with
  |true=>
   by_cases hc:(k1 == NameKind.free&&env.scope.kind == .function&&env.kindOf n == some .cell)=true
   ·rw[if_pos hc,Ui,hx]at h;injection h with h
    have hk:k1=.free:=by simp only[TY,beq_iff_eq]at hc;exact hc.1.1
    exact⟨k1,by rw[Ui,hx],.inr ⟨hk,h.symm⟩⟩
   ·rw[if_neg hc,Ui,hx]at h;injection h with h
    exact⟨k1,by rw[Ui,hx],.inl h.symm⟩
  |false=>
   by_cases hc:(k1 == NameKind.free&&env.scope.kind == .function&&env.kindOf n == some .cell)=true
   ·rw[if_pos hc,Ui,hx]at h;obtain⟨k0,e,z⟩:=cO env r x k h;exact⟨k0,by rw[Ui,hx];exact e,z⟩
   ·rw[if_neg hc,Ui,hx]at h;obtain⟨k0,e,z⟩:=cO env r x k h;exact⟨k0,by rw[Ui,hx];exact e,z⟩
structure cX(X:Cx)(nm:List Str)(scope:Scope):Prop where
 kind:scope.kind=.function
 cell:∀y∈scope.names,y.2≠.cell
 names:∀y∈scope.names,y.2=.local->scope.names.lookup y.1=some .local
 free:∀y∈scope.names,y.2=.free->X.env.kindOf y.1=some .cell\/X.env.kindOf y.1=some .free
 apart:∀x∈nm,scope.names.lookup x≠some .local
 len:nm.length=X.N.length
 mask:∀(i:Nat) (x:Str),nm[i]?=some x->X.N[i]?=some x\/scope.names.lookup x=none
section
variable{X:Cx}{nm:List Str}{MY tg iter:Expr}{J3:List Expr}{scope:Scope}{pos:Pos}{own:List Str}{wi:TI}{g:TG}{tt:TT}{te:TE}
theorem qF{sV:List (Addr×Obj)}{s2:Shared}{σ:L2.St}{H2:Hp}{cl:List (Str×Addr)}{it:Addr}{fp:List Addr}{tn:Nat->Heap->Prop}{J:It}{Q:VK}{E:Value->Shared->Prop}{RR:Value->Addr->Result->Shared->Prop}
  (hc:X.calm=true) (S:cX X nm scope) (mV:∀x c,cl.lookup x=some c->X.env.cells.lookup x=some c) (A4:∀y∈scope.names,y.2=.free->∃c,cl.lookup y.1=some c)
  (hg:∀cl C s H fp,PG (bf X nm scope own cl C s H fp) tg g) (ht:∀cl C s H fp,PTs (bf X nm scope own cl C s H fp) J3 tt) (he:∀cl C s H fp,PE (bf X nm scope own cl C s H fp) MY te)
  (I2:Inv X sV σ H2 s2) (T:Turn X.prog X.w X.K tg J fp it tn) (st2:tn 0 s2.heap) (f2:∀b∈fp,mD X sV H2 b)
  (hR:∀ D,H2 D=none→∃ W:Nat→Nat→L2.St→Hp→Prop,
   (∃m,W 0 m (σ++S5 own.length none) (upd H2 D (.lst [])))/\∀i m σ' H',W i m σ' H' ->
    (J.stop i H'∧Q (.ref D) H')∨(J.go i H'∧∀ x H2,J.yld i H' x H2→g x σ' H2 fun σ2 H3=>tt σ2 H3 fun b H4=>if b=true
     then te σ2 H4 fun y H5=>∃tG,H5 D=some (.lst tG)/\tG.length<sizeLine/\∃m',m'<m/\W (i+1) m' σ2 (upd H5 D (.lst (tG++[y])))
     else ∃m',m'<m/\W (i+1) m' σ2 H4))
  (RN:∀D C H6 s6,Inv X sV σ H6 s6->H6 C=none->C≠X.env.locals->X.s₀.heap.objs.size<=C->(∀x c,X.env.cells.lookup x=some c->c≠C)->(∀p∈X.pn++sV,p.1≠C)->(∃m,s6.heap.Ns C m)->Q (.ref D) H6->RR (.ref D) C (.ok .next) s6) :
  wpAny (model X.prog X.w) X.A (newList []) (fun tG s₃=>wpAny (model X.prog X.w) X.A (newFunctionEnv scope X.env.globals cl [] X.env.qual none .none (some X.env)) (fun cenv s₄=>codeAny (model X.prog X.w) X.A (.compStart (.ListComp MY [⟨tg,iter,J3,0⟩] scope pos) 0 (.ref it) tG { cenv with scope:=relabel scope X.env }) (RR tG cenv.locals) s₄) E s₃) E s2:=by
 have no:∀{P:Value->Shared->Prop} (x:Value) (s':Shared),False->P x s':=fun _ _ f=>f.elim;refine wpAny_newObj_type (wpAny_newFunctionEnv S.cell (by intro y hy;simp at hy) (fun h₁ hns₁ hsb₁=>?_) S.kind);dsimp only at hns₁ hsb₁ ⊢;have I3:Inv X sV σ (upd H2 s2.heap.objs.size (.lst [])) { s2 with heap:=s2.heap.push { cls:=.type "list",dict:=none,data:=.seq ([]:List Value).toArray } }:=I2.LM (t':=s2.toks) (ys:=[]) (its:=[]) .nil (TM _)
 generalize hG2:s2.heap.push { cls:=.type "list",dict:=none,data:=.seq ([]:List Value).toArray }=G2 at hns₁ hsb₁ I3 ⊢
 have hC:G2.objs.size=s2.heap.objs.size+1:=by rw[<- hG2,UT]
 have up2:∀b o,s2.heap.get? b=some o->G2.get? b=some o:=fun b o e=>hG2▸Ds _ e;have up3:∀b o,G2.get? b=some o->h₁.get? b=some o:=fun b o e=>hsb₁.extBut b o (Ti (S9 e)) (Ds _ e);have RO:G2.get? G2.objs.size=none:=Wo (PU _);have fpo:∀b∈fp,∃o,s2.heap.get? b=some o:=fun b hb=>by obtain⟨o,e,_⟩:=T.obj 0 _ st2 b hb;exact⟨o,e⟩
 have fpC:∀b∈fp,b≠G2.objs.size:=fun b hb=>by obtain⟨o,e⟩:=fpo b hb;exact Ti (S9 (up2 b o e))
 have H3C:(upd H2 s2.heap.objs.size (.lst [])) G2.objs.size=none:=I3.hok.fresh (PU _);have fpD:∀b∈fp,b≠s2.heap.objs.size:=fun b hb=>by obtain⟨o,e⟩:=fpo b hb;exact Ti (S9 e)
 have Pf:∀b∈fp,b∉frs X.stack:=fun b hb z=>by
  rcases S4.mp (I3.rV b z) with y | y
  ·exact(f2 b hb).2.1 y
  ·exact(f2 b hb).2.2.1 y
 have ok':(bf X nm scope own cl G2.objs.size { s2 with heap:=G2 } (upd H2 s2.heap.objs.size (.lst [])) fp).Ok:=by
  refine ⟨I3.ok.mod,S.kind,I3.ok.glob,I3.ok.blt,PU _,fun x y c e1 e2=>I3.ok.inj x y c (mV x c e1) (mV y c e2),fun x hx=>?_,fun x c z=>(nomatch z),I3.ok.hd,I3.ok.frames,.inl rfl,
   fun b hb=>⟨fpC b hb,fun x c e=>(f2 b hb).2.2.2.2.1 x c (mV x c e)⟩,fun b o e=>I3.bs b o e,Tq I3.ok.bsz I3.sz,fun b o e hb=>?_,fun b hb=>Pf b hb,I3.stack,I3.yS⟩
  ·have hx:(relabel scope X.env).names.lookup x=some .cell\/(relabel scope X.env).names.lookup x=some .free:=hx;have key:∀k,(relabel scope X.env).names.lookup x=some k->k≠.local->k=.cell\/k=.free->∃c,cl.lookup x=some c:=fun k hk _ hkk=>by
    obtain⟨k0,e0,z⟩:=cO X.env scope.names x k hk;have m0:=PySem.mem_of_lookup e0;have f0:k0=.free:=by
     rcases z with z | z
     ·subst z;rcases hkk with q | q
      ·exact absurd q (S.cell _ m0)
      ·exact q
     ·exact z.1
    exact A4 (x,k0) m0 f0
   rcases hx with hx | hx
   ·exact key _ hx (by decide) (.inl rfl)
   ·exact key _ hx (by decide) (.inr rfl)
  ·rcases (f2 b hb).2.2.2.1 with z | z
   ·exact I3.ok.B4 b o e z
   ·exact absurd (Tj (S9 e) (Tq I3.ok.bsz z)) (Uz _)
 have stat:∀{H':Hp},(∀b∈fp,H' b=none)->∀b∈fp,mD (bf X nm scope own cl G2.objs.size { s2 with heap:=G2 } (upd H2 s2.heap.objs.size (.lst [])) fp) [] H' b:=fun hn b hb=>⟨hn b hb,fpC b hb,Pf b hb,.inl hb,fun x c e=>(f2 b hb).2.2.2.2.1 x c (mV x c e),fun p hp=>(nomatch (show p∈([]:List (Addr×Obj)) from hp))⟩
 have I4:Inv (bf X nm scope own cl G2.objs.size { s2 with heap:=G2 } (upd H2 s2.heap.objs.size (.lst [])) fp) [] (σ++S5 own.length none) (upd H2 s2.heap.objs.size (.lst [])) { s2 with heap:=h₁,toks:=s2.toks+([]:List (Str×Value)).length }:=by
  refine⟨ok',rfl,I3.bare,Un.kept up3,⟨_,hns₁,fun i x v e1 e2 e3=>?_⟩,fun x c e=>?_,H3C,fun x c e=>I3.fS x c (mV x c e),fun p hp=>(nomatch (show p∈([]:List (Addr×Obj)) from hp)),I3.hok.kept up3,?_⟩
  ·have e1:(nm++own)[i]?=some x:=e1;have hi:i<σ.length:=by
    by_cases hi:i<σ.length
    ·exact hi
    ·rw[TZ (U7.mp hi),Uq]at e2;split at e2<;>cases e2
   rw[Tn hi]at e2;rw[Tn (by rw[S.len,<- I3.len];exact hi)]at e1;have key:∀k,(relabel scope X.env).names.lookup x=some k->k=.local\/k=.cell\/k=.free->scope.names.lookup x=some .free/\(k=.cell\/k=.free):=fun k hk hkk=>by
    obtain⟨k0,e0,z⟩:=cO X.env scope.names x k hk;have m0:=PySem.mem_of_lookup e0;have n1:k0≠.local:=fun y=>S.apart x (UZ e1) (y▸e0);have n2:k0≠.cell:=S.cell _ m0;rcases z with z | z
    ·subst z;rcases hkk with q | q | q
     ·exact absurd q n1
     ·exact absurd q n2
     ·subst q;exact⟨e0,.inr rfl⟩
    ·obtain⟨z1,z2⟩:=z;subst z1;subst z2;exact⟨e0,.inl rfl⟩
   have hk:∃k,(relabel scope X.env).names.lookup x=some k/\(k=.cell\/k=.free)/\scope.names.lookup x=some .free:=by
    rcases (show (relabel scope X.env).names.lookup x=some .local\/(relabel scope X.env).names.lookup x=some .cell\/(relabel scope X.env).names.lookup x=some .free from e3) with q | q | q
    ·obtain⟨a,b⟩:=key _ q (.inl rfl);exact⟨_,q,b,a⟩
    ·obtain⟨a,b⟩:=key _ q (.inr (.inl rfl));exact⟨_,q,b,a⟩
    ·obtain⟨a,b⟩:=key _ q (.inr (.inr rfl));exact⟨_,q,b,a⟩
   obtain⟨k,hk1,hk2,hk3⟩:=hk;have m0:=PySem.mem_of_lookup hk3;obtain⟨c,hcc⟩:=A4 (x,.free) m0 rfl;obtain⟨m,hn,hl⟩:=I3.loc;have hout:=S.free (x,.free) m0 rfl;have RP:Vis X.env.scope x:=by
    rcases hout with q | q
    ·exact .inr (.inl q)
    ·exact .inr (.inr q)
   have e1':X.N[i]?=some x:=by
    rcases S.mask i x e1 with z | z
    ·exact z
    ·rw[z]at hk3;cases hk3
   obtain⟨u,ru,lk⟩:=hl i x v e1' e2 RP;refine⟨u,ru,.inr ⟨?_,c,hcc,?_⟩⟩
   ·rcases hk2 with q | q
    ·subst q;exact .inl hk1
    ·subst q;exact .inr hk1
   ·rcases lk with⟨q,_⟩ | ⟨_,c',e',z⟩
    ·rcases hout with y | y
     ·rw[q]at y;cases y
     ·rw[q]at y;cases y
    ·rw[mV x c hcc]at e';cases e';obtain⟨o,ho,hd⟩:=z;exact⟨o,up3 c o ho,hd⟩
  ·obtain⟨v,o,ho,hd⟩:=I3.cell x c (mV x c e);exact⟨v,o,up3 c o ho,hd⟩
  ·show (σ++S5 own.length none).length=(nm++own).length;rw[Tg,Tg,VE,I3.len,S.len]
 obtain⟨W,⟨m0,w0⟩,turn⟩:=hR s2.heap.objs.size I2.fresh;have st4:tn 0 h₁:=T.keep 0 _ _ st2 fun b hb o e=>up3 b o (up2 b o e);have RQ:∀b∈fp,(upd H2 s2.heap.objs.size (.lst [])) b=none:=fun b hb=>by rw[aj (fpD b hb)];exact(f2 b hb).1
 have Qs:∀s₃:Shared,s₃={ s2 with heap:=h₁,toks:=s2.toks+([]:List (Str×Value)).length } ->
   codeAny (model X.prog X.w) X.A (.compLoop (.ListComp MY [⟨tg,iter,J3,0⟩] scope pos) 0 (.ref it) (.ref s2.heap.objs.size) (compEnvC scope cl G2.objs.size X.env))
    (RR (.ref s2.heap.objs.size) G2.objs.size) s₃:=by
  rintro s₃ rfl;refine sr (fun n s'=>∃i σ' H',Inv (bf X nm scope own cl G2.objs.size { s2 with heap:=G2 } (upd H2 s2.heap.objs.size (.lst [])) fp) [] σ' H' s'/\tn i s'.heap/\(∀b∈fp,H' b=none)/\W i n σ' H') ?_ m0
   ⟨0,_,_,I4,st4,RQ,w0⟩
  rintro n s5 ⟨i,σ5,H5,I5,st5,fr5,w5⟩;rcases turn i n σ5 H5 w5 with⟨stop,q⟩ | ⟨go,step⟩
  ·refine wpAny_mono (T.done (bf X nm scope own cl G2.objs.size { s2 with heap:=G2 } (upd H2 s2.heap.objs.size (.lst [])) fp) rfl rfl rfl hc i [] s5 σ5 H5 (fun _ _=>False) I5 (stat fr5) st5 stop) (fun r s6 hr6=>?_) no;obtain⟨hr,I6⟩:=hr6;subst hr;have I7:Inv X sV σ H5 s6:=I3.OD (ch:=fp) I6.os I6.base I6.hok I6.bare fun b hb=>⟨(f2 b hb).2.2.2.1,(f2 b hb).2.1,(f2 b hb).2.2.2.2.1,(f2 b hb).2.2.2.2.2⟩;refine RN _ _ H5 s6 I7 I6.free (UC (show X.env.locals<G2.objs.size from I3.lt)) I3.sz (fun x c e=>?_) (fun p hp=>?_) (let ⟨m,hn,_⟩:=I6.loc;⟨m,hn⟩) q
   ·obtain⟨v,z⟩:=I3.cell x c e;exact Ti z.lt
   ·exact Ti (S9 (I3.pin p hp).1)
  ·refine wpAny_mono (T.item (bf X nm scope own cl G2.objs.size { s2 with heap:=G2 } (upd H2 s2.heap.objs.size (.lst [])) fp) rfl rfl rfl hc i [] s5 σ5 H5 (fun _ _=>False) I5 (stat fr5) st5 go) (fun r s6 hr6=>?_) no;obtain⟨u,hr,h6⟩:=hr6;subst hr;refine wpAny_mono h6 (fun _ s7 h7=>?_) no;obtain⟨x,H7,I7,r7,y7,st7,fr7⟩:=h7;have I7':=I7.pinned (stat fr7) (T.obj _ _ st7);have again:∀{s9:Shared} {σ9:L2.St} {H9:Hp} {m':Nat},m'<n->Inv (bf X nm scope own cl G2.objs.size { s2 with heap:=G2 } (upd H2 s2.heap.objs.size (.lst [])) fp) ([]++mE fp s7.heap) σ9 H9 s9->W (i+1) m' σ9 H9 ->
     ∃m,m<n/\∃i σ' H',Inv (bf X nm scope own cl G2.objs.size { s2 with heap:=G2 } (upd H2 s2.heap.objs.size (.lst [])) fp) [] σ' H' s9/\tn i s9.heap/\(∀b∈fp,H' b=none)/\W i m σ' H':=fun {s9 σ9 H9 m'} hm I9 w9=>by
    refine⟨m',hm,i+1,σ9,H9,I9.jr,T.keep _ _ _ st7 fun b hb o e=>(I9.pin (b,o) (TF _ (TF _ (fh hb e)))).1,fun b hb=>?_,w9⟩;obtain⟨o,e,d⟩:=T.obj _ _ st7 b hb;exact(I9.pin (b,o) (TF _ (TF _ (fh hb e)))).2.1
   refine wpAny_mono (hg cl G2.objs.size _ _ fp _ s7 σ5 H7 x u _ I7' r7 (step x H7 y7)) (fun _ s8 h8=>?_) no;obtain⟨σ8,H8,I8,q8⟩:=h8;refine wpAny_mono (ht cl G2.objs.size _ _ fp _ s8 σ8 H8 _ I8 q8) (fun b s9 h9=>?_) no;obtain⟨H9,I9,q9⟩:=h9;cases b with
   |false=>rw[if_neg TQ]at q9 ⊢;obtain⟨m',hm,w9⟩:=q9;exact again hm I9 w9
   |true=>rw[if_pos rfl]at q9 ⊢;refine wpAny_mono (he cl G2.objs.size _ _ fp _ s9 σ8 H9 _ I9 q9) (fun y s10 h10=>?_) no;obtain⟨yv,H10,I10,r10,tG,hacc,D9,m',hm,w10⟩:=h10;refine wpAny_mono (j5 (X:=bf X nm scope own cl G2.objs.size { s2 with heap:=G2 } (upd H2 s2.heap.objs.size (.lst [])) fp) _ s10 σ8 H10 (.ref s2.heap.objs.size) [yv] (.ref s2.heap.objs.size) [y] (fun _ H'=>H'=upd H10 s2.heap.objs.size (.lst (tG++[yv]))) I10 rfl (.cons r10 .nil) ⟨_,tG,yv,rfl,rfl,hacc,D9,rfl⟩) (fun _ s11 h11=>?_) no;obtain⟨_,H11,I11,_,e11⟩:=h11;subst e11;exact again hm I11 w10
 exact codeAny_compStart_list (Qs _ rfl) (T.self _ 0 _ _ _ st4 (Qs _ rfl))
theorem zj(hc:X.calm=true)(S:cX X nm scope)(hi:PI X tg iter wi)
  (hg:∀cl C s H fp,PG (bf X nm scope own cl C s H fp) tg g) (ht:∀cl C s H fp,PTs (bf X nm scope own cl C s H fp) J3 tt) (he:∀cl C s H fp,PE (bf X nm scope own cl C s H fp) MY te)
  (hs:∀x,foldedSetIterable iter X.env x=pure x:=by intro _;rfl):PE X (.ListComp MY [⟨tg,iter,J3,0⟩] scope pos) (tLC wi own.length g tt te):=by
 intro sV s σ H Q I h;obtain⟨cl,hclos,mV,A4⟩:=mU (env:=X.env) (scope:=scope) fun y hy hf=>I.ok.has y.1 (S.free y hy hf);rw[eval_ListComp];refine wpAny_comprehension_free (use:=none) rfl hs hclos S.kind S.names (thn (hi sV s σ H _ I h) fun v s1 h1=>thn h1 fun itv s2 h2=>?_);obtain⟨it,fp,tn,J,H2,e,I2,T,st2,f2,hR⟩:=h2;subst e;refine qF (Q:=Q) (RR:=fun tG C=>compPost (model X.prog X.w) X.A X.xe none (EP X sV σ Q) tG C) hc S mV A4 hg ht he I2 T st2 f2 hR ?_;intro D C H6 s6 I6 hCn hCL hCs hCc hCp hns q;obtain⟨m,hn⟩:=hns;refine⟨m,hn,fun h' hs'=>⟨.ref D,H6,I6.turned (t':=s6.toks) (fun b o hb e=>(hs'.2 b hb).trans e) hCn hCL (.inr hCs) hCc hCp,rfl,q⟩⟩
theorem fY{i:Nat}{y:Str}{py Qq:Pos}(hN:X.N.Nodup)(hi':X.N[i]?=some y)(hy:Loc X.env.scope y)(hc:X.calm=true)(S:cX X nm scope)(hi:PI X tg iter wi)
  (hg:∀cl C s H fp,PG (bf X nm scope own cl C s H fp) tg g) (ht:∀cl C s H fp,PTs (bf X nm scope own cl C s H fp) J3 tt) (he:∀cl C s H fp,PE (bf X nm scope own cl C s H fp) MY te)
  (hsw:swapsWith (.ListComp MY [⟨tg,iter,J3,0⟩] scope pos) (some (.Name y py)) Qq.line X.env=pure true:=by rfl)
  (hs:∀x,foldedSetIterable iter X.env x=pure x:=by intro _;rfl) (hf:X.fn y=true\/X.env.scope.names.lookup y=some .local:=by trivial) :
  PS X (.Assign [.Name y py] (.ListComp MY [⟨tg,iter,J3,0⟩] scope pos) Qq) (AH (tLC wi own.length g tt te) (jq i)):=by
 intro sV s σ H Dn I h;obtain⟨cl,hclos,mV,A4⟩:=mU (env:=X.env) (scope:=scope) fun y hy hf=>I.ok.has y.1 (S.free y hy hf);rw[exec_Assign_Name_used _ _ _ _ hsw];refine wpAny_bind (wpAny_standAt (wpAny_bind ?_));show wpAny _ X.A (do let _ <- comprehension (.ListComp MY [⟨tg,iter,J3,0⟩] scope pos) scope X.env _ (newList []) false (eval iter X.env) (some (assign (.Name y py) X.env))) _ _ s;refine wpAny_bind (wpAny_mono (wpAny_comprehension_free (use:=some (assign (.Name y py) X.env)) (Q:=fun _ s'=>SP X sV Dn .next s') rfl hs hclos S.kind S.names
  (thn (hi sV s σ H _ I h) fun v s1 h1=>thn h1 fun itv s2 h2=>?_)) (fun _ s' hq=>wpAny_pure (wpAny_pure hq)) fun _ _ e=>e)
 obtain⟨it,fp,tn,J,H2,e,I2,T,st2,f2,hR⟩:=h2;subst e;refine qF (Q:=fun x H1=>jq i x σ H1 Dn.nx) (RR:=fun tG C=>compPost (model X.prog X.w) X.A X.xe (some (assign (.Name y py) X.env)) (fun _ s'=>SP X sV Dn .next s') tG C) hc S mV A4 hg ht he I2 T st2 f2 hR ?_;intro D C H6 s6 I6 hCn hCL hCs hCc hCp hns q;obtain⟨m,hn⟩:=hns;show wpAny _ X.A (assign (.Name y py) X.env (.ref D)) _ _ _;refine wpAny_assign_Name (qq I6 hN hi' hy (v:=.ref D) rfl (fun s7 I7 h7=>?_) hf);obtain⟨a,sb,ha⟩:=h7;have hCa:C≠a:=by
  rcases ha with ha | ha
  ·rw[ha];exact hCL
  ·exact Ne.symm (hCc y a ha)
 refine⟨m,hn.sameBut sb hCa,fun h' hs'=>⟨_,H6,I7.turned (t':=s7.toks) (fun b o hb e=>(hs'.2 b hb).trans e) hCn hCL (.inr hCs) hCc hCp,q⟩⟩
end
mutual
noncomputable def toPy:Dat->PyData
 |.non=>.none
 |.bl b=>.bool b
 |.int i=>.int i
 |.str s=>.str ⟨s.toArray⟩
 |.tup xs=>.tuple (b8 xs)
 |.lst xs=>.list (b8 xs)
 |.dct _ _=>.dict []
 |.exc _=>.dict []
 |.fn _=>.dict []
noncomputable def b8:List Dat->List PyData
 |[]=>[]
 |x::xs=>toPy x::b8 xs
end
mutual
theorem jG:∀a b:Dat,UG (toPy a) (toPy b)=Dm.eqD a b
 |.non,b=>by cases b<;>simp[toPy,UG,Dm.eqD]
 |.bl x,b=>by cases b<;>simp[toPy,UG,Dm.eqD,Dm.b2i]
 |.int x,b=>by cases b<;>simp[toPy,UG,Dm.eqD,Dm.b2i]
 |.str x,b=>by
  cases b with
  |str y=>
   simp only[toPy,UG,Dm.eqD];rw[Xa];simp only[beq_iff_eq];constructor
   ·intro h;have h:=congrArg (fun s:Str=>s.cps.toList) h
    simpa using h
   ·rintro rfl;rfl
  |_=>simp[toPy,UG,Dm.eqD]
 |.tup xs,b=>by
  cases b with
  |tup ys=>simp only[toPy,UG,Dm.eqD];exact ki xs ys
  |_=>simp[toPy,UG,Dm.eqD]
 |.lst xs,b=>by
  cases b with
  |lst ys=>simp only[toPy,UG,Dm.eqD];exact ki xs ys
  |_=>simp[toPy,UG,Dm.eqD]
 |.dct ks vs,b=>by cases b<;>simp[toPy,UG,Dm.eqD]
 |.exc C,b=>by cases b<;>simp[toPy,UG,Dm.eqD]
 |.fn C,b=>by cases b<;>simp[toPy,UG,Dm.eqD]
theorem ki:∀a b:List Dat,WO (b8 a) (b8 b)=Dm.jy a b
 |[],b=>by cases b<;>simp[b8,WO,Dm.jy]
 |x::xs,b=>by
  cases b with
  |nil=>simp[b8,WO,Dm.jy]
  |cons y ys=>simp only[b8,WO,Dm.jy];rw[jG x y,ki xs ys]
end
theorem CM{s:List Nat}(h:(s.all fun c=>decide (c<128))=true):PyData.strOk ⟨s.toArray⟩=true:=by unfold PyData.strOk;rw[Array.all_eq_true'];intro c hc;have h1:=Ug.mp h c (by simpa using hc);have h2:c<128:=of_decide_eq_true h1;exact decide_eq_true (by lia)
theorem b9{P:Program}{w:World}{H:Hp}{h:Heap}(ok:HOk P w H h):∀(n:Nat),
  (∀(v:V) (d:Dat) (u:Value),Rep H v d->RelV v u->Dm.okD n d=true->∃as,Reads h u (toPy d) as/\(toPy d).canLay0=true/\(toPy d).depth<=n) /\
  (∀(vs:List V) (ds:List Dat) (us:List Value),aD H vs ds->Vals vs us->ds.all (Dm.okD n)=true->∃as,ReadsAll h us (b8 ds) as/\WW (b8 ds)=true/\Vc (b8 ds)<=n):=by
 intro n
 induction n with
 |zero=>
  have one:∀(v:V) (d:Dat) (u:Value),Rep H v d->RelV v u->Dm.okD 0 d=true->∃as,Reads h u (toPy d) as/\(toPy d).canLay0=true/\(toPy d).depth<=0:=by
   intro v d u r rv k;cases r with
   |non=>cases rv;exact⟨_,.none,rfl,PU _⟩
   |bl b=>cases rv;exact⟨_,.bool b,rfl,PU _⟩
   |int i=>obtain⟨t,rfl⟩:=rv;exact⟨_,.int i t,rfl,PU _⟩
   |str s=>obtain⟨t,rfl⟩:=rv;exact⟨_,.str _ t,CM k,PU _⟩
   |tup _ _=>cases k
   |lst _ _=>cases k
   |dct _ _ _=>cases k
   |exc _=>cases k
   |fn _=>cases k
  refine⟨one,fun vs ds=>?_⟩
  induction ds generalizing vs with
  |nil=>intro us r rv _;cases r;cases rv;exact⟨_,.nil,rfl,PU _⟩
  |cons d ds ih=>
   intro us r rv k;cases r with
   |cons r rs=>
    cases rv with
    |cons q qs=>rw[WQ,TY]at k;obtain⟨a1,h1,h2,h3⟩:=one _ _ _ r q k.1;obtain⟨a2,h4,h5,h6⟩:=ih _ _ rs qs k.2;exact⟨_,.cons h1 h4,by simp[b8,WW,h2,h5],by simp only[b8,Vc];lia⟩
 |succ n ih=>
  have one:∀(v:V) (d:Dat) (u:Value),Rep H v d->RelV v u->Dm.okD (n+1) d=true->∃as,Reads h u (toPy d) as/\(toPy d).canLay0=true/\(toPy d).depth<=n+1:=by
   intro v d u r rv k;cases r with
   |non=>cases rv;exact⟨_,.none,rfl,TM _⟩
   |bl b=>cases rv;exact⟨_,.bool b,rfl,TM _⟩
   |int i=>obtain⟨t,rfl⟩:=rv;exact⟨_,.int i t,rfl,TM _⟩
   |str s=>obtain⟨t,rfl⟩:=rv;exact⟨_,.str _ t,CM k,TM _⟩
   |tup q rs=>cases rv;obtain⟨z,its,vr,ob,e,hc,m,hd⟩:=ok _ _ q;obtain⟨as,h1,h2,h3⟩:=ih.2 _ _ _ rs vr k;exact⟨_,.tuple e hc hd h1,h2,by simp only[toPy,PyData.depth];lia⟩
   |lst q rs=>cases rv;obtain⟨z,its,m,vr,e⟩:=q.ok ok;obtain⟨as,h1,h2,h3⟩:=ih.2 _ _ _ rs vr k;exact⟨_,.list e rfl rfl h1,h2,by simp only[toPy,PyData.depth];lia⟩
   |dct _ _ _=>cases k
   |exc _=>cases k
   |fn _=>cases k
  refine⟨one,fun vs ds=>?_⟩
  induction ds generalizing vs with
  |nil=>intro us r rv _;cases r;cases rv;exact⟨_,.nil,rfl,TM _⟩
  |cons d ds ih=>
   intro us r rv k;cases r with
   |cons r rs=>
    cases rv with
    |cons q qs=>rw[WQ,TY]at k;obtain⟨a1,h1,h2,h3⟩:=one _ _ _ r q k.1;obtain⟨a2,h4,h5,h6⟩:=ih _ _ rs qs k.2;exact⟨_,.cons h1 h4,by simp[b8,WW,h2,h5],by simp only[b8,Vc];lia⟩
theorem j_.full{H0 H:Hp}(s:au H0 H){v:V}{d:Dat}(r:j_ H0 H v d):Rep H v d:=by
 rcases r with r | ⟨a,rfl,w⟩
 ·exact r.mono s
 ·cases d with
  |lst ds=>obtain⟨xs,q,rs⟩:=w;exact .lst (.inl q) (rs.mono s)
  |dct ks ds=>obtain⟨kvs,q,e,rs⟩:=w;exact .dct q e (rs.mono s)
  |_=>exact T8 w
def G8(neg:Bool):R2:=fun x y H Q=>∃dx dy,Rep H x dx/\Rep H y dy/\Dm.okD 8 dx=true/\Dm.okD 8 dy=true/\Q (.bl (if neg then !Dm.eqD dx dy else Dm.eqD dx dy)) H
section
variable{X:Cx}
section
variable{k:Nat}
theorem L0(hr:aX k X.A):OpR X (compareOp .Eq) (G8 false):=by intro sV s σ H x y v u Q I rx ry h;obtain⟨dx,dy,r1,r2,k1,k2,q⟩:=h;obtain⟨as,h1,h2,h3⟩:=(b9 I.hok 8).1 x dx v r1 rx k1;obtain⟨bs,h4,h5,h6⟩:=(b9 I.hok 8).1 y dy u r2 ry k2;have hu:=hr.units;refine PySem.SeqAt.compareEq_reads h1 h4 h2 h5 (by lia) ?_;rw[jG];exact⟨.bl (Dm.eqD dx dy),H,I,rfl,q⟩
theorem L1(hr:aX k X.A):OpR X (compareOp .NotEq) (G8 true):=by intro sV s σ H x y v u Q I rx ry h;obtain⟨dx,dy,r1,r2,k1,k2,q⟩:=h;obtain⟨as,h1,h2,h3⟩:=(b9 I.hok 8).1 x dx v r1 rx k1;obtain⟨bs,h4,h5,h6⟩:=(b9 I.hok 8).1 y dy u r2 ry k2;have hu:=hr.units;refine PySem.SeqAt.compareNe_reads h1 h4 h2 h5 (by lia) ?_;rw[jG];exact⟨.bl (!Dm.eqD dx dy),H,I,rfl,q⟩
def G9(neg:Bool):R2:=fun x y H Q=>∃dx ds,Rep H x dx/\(Rep H y (.lst ds)\/Rep H y (.tup ds))/\Dm.okD 8 dx=true/\ds.all (Dm.okD 7)=true/\Q (.bl (if neg then !Dm.inD dx ds else Dm.inD dx ds)) H
theorem fZ(x:Dat):∀ds:List Dat,((b8 ds).any fun y=>UG y (toPy x))=Dm.inD x ds
 |[]=>rfl
 |d::ds=>by have:=fZ x ds;unfold Dm.inD at this ⊢;simp only[b8,U4,jG];rw[this]
theorem CN(hr:aX k X.A):OpR X (compareOp .In) (G9 false):=by
 intro sV s σ H x y v u Q I rx ry h;obtain⟨dx,ds,r1,r2,k1,k2,q⟩:=h;obtain⟨as,h1,h2,h3⟩:=(b9 I.hok 8).1 x dx v r1 rx k1;have hu:=hr.units;rcases r2 with r2 | r2
 ·obtain⟨bs,h4,h5,h6⟩:=(b9 I.hok 8).1 y (.lst ds) u r2 ry k2;have h6:Vc (b8 ds)+1<=8:=h6;refine PySem.SeqAt.in_list_reads h4 h1 h5 h2 (by lia) ?_;rw[fZ];exact⟨.bl (Dm.inD dx ds),H,I,rfl,q⟩
 ·obtain⟨bs,h4,h5,h6⟩:=(b9 I.hok 8).1 y (.tup ds) u r2 ry k2;have h6:Vc (b8 ds)+1<=8:=h6;refine PySem.SeqAt.in_tuple_reads h4 h1 h5 h2 (by lia) ?_;rw[fZ];exact⟨.bl (Dm.inD dx ds),H,I,rfl,q⟩
theorem qG(hr:aX k X.A):OpR X (compareOp .NotIn) (G9 true):=by
 intro sV s σ H x y v u Q I rx ry h;obtain⟨dx,ds,r1,r2,k1,k2,q⟩:=h;obtain⟨as,h1,h2,h3⟩:=(b9 I.hok 8).1 x dx v r1 rx k1;have hu:=hr.units;rcases r2 with r2 | r2
 ·obtain⟨bs,h4,h5,h6⟩:=(b9 I.hok 8).1 y (.lst ds) u r2 ry k2;have h6:Vc (b8 ds)+1<=8:=h6;refine PySem.SeqAt.notIn_list_reads h4 h1 h5 h2 (by lia) ?_;rw[fZ];exact⟨.bl (!Dm.inD dx ds),H,I,rfl,q⟩
 ·obtain⟨bs,h4,h5,h6⟩:=(b9 I.hok 8).1 y (.tup ds) u r2 ry k2;have h6:Vc (b8 ds)+1<=8:=h6;refine PySem.SeqAt.notIn_tuple_reads h4 h1 h5 h2 (by lia) ?_;rw[fZ];exact⟨.bl (!Dm.inD dx ds),H,I,rfl,q⟩
end
end
section
variable{H0 H:Hp}{ds:List Dat}{v:V}
theorem aA{i:Int}(r:j_ H0 H v (.int i)):v=.int i:=by
 rcases r with r | ⟨a,_,w⟩
 ·exact Rep.isInt r
 ·exact T8 w
theorem G_{b:Bool}(r:j_ H0 H v (.bl b)):v=.bl b:=by
 rcases r with r | ⟨a,_,w⟩
 ·exact Rep.se r
 ·exact T8 w
theorem bD(s:au H0 H)(r:j_ H0 H v (.lst ds)):∃a xs,v=.ref a/\Rd H a (.lst xs)/\aD H0 xs ds:=by
 rcases r with r | ⟨a,e,xs,q,rs⟩
 ·cases r with
  |lst q rs=>exact⟨_,_,rfl,au.rd s q,rs⟩
 ·exact⟨a,xs,e,.inl q,rs⟩
theorem eL(s:au H0 H)(r:j_ H0 H v (.tup ds)):∃a xs,v=.ref a/\H a=some (.tup xs)/\aD H0 xs ds:=by
 rcases r with r | ⟨a,_,w⟩
 ·cases r with
  |tup q rs=>exact⟨_,_,rfl,s _ _ q,rs⟩
 ·exact T8 w
theorem L3:OpD (rI0 fun i j=>.int (i-j)) Dm.gQ:=by
 intro H0 H x y dx dy z Q s rx ry e k;unfold Dm.gQ at e;split at e
 ·cases e;cases aA rx;cases aA ry;exact⟨_,_,rfl,rfl,k _ H0 H (aQ.refl s) (.int _)⟩
 ·cases e
theorem JJ:OpD (rI0 fun i j=>.bl (decide (i<j))) Dm.gLt:=by
 intro H0 H x y dx dy z Q s rx ry e k;unfold Dm.gLt at e;split at e
 ·cases e;cases aA rx;cases aA ry;exact⟨_,_,rfl,rfl,k _ H0 H (aQ.refl s) (.bl _)⟩
 ·cases e
theorem zk:OpD (rI0 fun i j=>.bl (decide (i<=j))) Dm.gLe:=by
 intro H0 H x y dx dy z Q s rx ry e k;unfold Dm.gLe at e;split at e
 ·cases e;cases aA rx;cases aA ry;exact⟨_,_,rfl,rfl,k _ H0 H (aQ.refl s) (.bl _)⟩
 ·cases e
theorem Pg:OpD (rI0 fun i j=>.bl (decide (j<i))) Dm.gGt:=by
 intro H0 H x y dx dy z Q s rx ry e k;unfold Dm.gGt at e;split at e
 ·cases e;cases aA rx;cases aA ry;exact⟨_,_,rfl,rfl,k _ H0 H (aQ.refl s) (.bl _)⟩
 ·cases e
theorem Ph:OpD (rI0 fun i j=>.bl (decide (j<=i))) Dm.gGe:=by
 intro H0 H x y dx dy z Q s rx ry e k;unfold Dm.gGe at e;split at e
 ·cases e;cases aA rx;cases aA ry;exact⟨_,_,rfl,rfl,k _ H0 H (aQ.refl s) (.bl _)⟩
 ·cases e
theorem L4:OpD (rI (fun _ j=>0<j) fun i j=>.int (i % j)) Dm.lP:=by
 intro H0 H x y dx dy z Q s rx ry e k;unfold Dm.lP at e;split at e
 ·split at e
  ·rename_i hj;cases e;cases aA rx;cases aA ry;exact⟨_,_,rfl,rfl,hj,k _ H0 H (aQ.refl s) (.int _)⟩
  ·cases e
 ·cases e
theorem L5:OpD (rI GO fun i j=>.int (i ^ j.toNat)) Dm.uf:=by
 intro H0 H x y dx dy z Q s rx ry e k;unfold Dm.uf at e;split at e
 ·split at e
  ·rename_i hj;cases e;cases aA rx;cases aA ry;exact⟨_,_,rfl,rfl,⟨hj.1,hj.2.1,Xs hj.2.2 (by decide)⟩,k _ H0 H (aQ.refl s) (.int _)⟩
  ·cases e
 ·cases e
theorem L6:OpD (rI (fun _ j=>0<=j) fun i j=>.int (i / 2 ^ j.toNat)) Dm.A1:=by
 intro H0 H x y dx dy z Q s rx ry e k;unfold Dm.A1 at e;split at e
 ·split at e
  ·rename_i hj;cases e;cases aA rx;cases aA ry;exact⟨_,_,rfl,rfl,hj,k _ H0 H (aQ.refl s) (.int _)⟩
  ·cases e
 ·cases e
end
section
variable{X:Cx}
def JK(i j:Int):Prop:=0<j/\j<Dm.jA
theorem CO:OpR X (binaryOp .FloorDiv) (rI JK fun i j=>.int (i / j)):=opI fun i j _ _ _ _ _ hc q=>by
 have h:j.natAbs.log2<9000:=by
  have h1:j.natAbs<2 ^ 200:=by
   have:=hc.2;unfold Dm.jA at this;have h2:=hc.1;have e:(2:Nat) ^ 200=1606938044258990275541962092341162602522202993782792835301376:=by decide +kernel
   omega
  have h3:j.natAbs≠0:=by have:=hc.1;omega
  have:=(Nat.log2_lt h3).mpr h1;omega
 have e:i.fdiv j=i / j:=Int.fdiv_eq_ediv_of_nonneg i (Int.le_of_lt hc.1);rw[<- e]at q;exact floordiv_int (Int.ne_of_gt hc.1) q (.inl (PyProof.noPylong_of_log2 h))
end
theorem L7:OpD (rI JK fun i j=>.int (i / j)) Dm.xA:=by
 intro H0 H x y dx dy z Q s rx ry e k;unfold Dm.xA at e;split at e
 ·split at e
  ·rename_i hj;cases e;cases aA rx;cases aA ry;exact⟨_,_,rfl,rfl,hj,k _ H0 H (aQ.refl s) (.int _)⟩
  ·cases e
 ·cases e
theorem RS(i:Int):WI i 1=i % 2:=PyProof.Rows.bitAnd_m1 i
theorem L8:OpD (rI0 fun i j=>.int (WI i j)) Dm.CD:=by
 intro H0 H x y dx dy z Q s rx ry e k;unfold Dm.CD at e;split at e
 ·split at e
  ·rename_i hj;subst hj;cases e;cases aA rx;cases aA ry;exact⟨_,_,rfl,rfl,k _ H0 H (aQ.refl s) (by show Rep _ (V.int (WI _ 1)) _;rw[RS];exact .int _)⟩
  ·cases e
 ·cases e
def CP:R2:=fun x y H Q=>∃l b xs zs,x=.ref l/\y=.ref b/\Rd H l (.lst xs)/\Rd H b (.lst zs)/\xs.length+zs.length<=sizeLine/\∀p,H p=none->Q (.ref p) (upd H p (.lst (xs++zs)))
def CQ:R2:=fun x y H Q=>∃l k xs,x=.ref l/\y=.int k/\Rd H l (.lst xs)/\-(2 ^ 63)<=k/\k<2 ^ 63/\xs.length*k.toNat<=sizeLine /\
 ∀p,H p=none->Q (.ref p) (upd H p (.lst (S5 k.toNat xs).flatten))
section
variable{X:Cx}
theorem Hg:OpR X (binaryOp .Add) CP:=by
 intro sV s σ H x y v u Q I rx ry h;obtain⟨l,b,xs,zs,rfl,rfl,hH,hB,hz,q⟩:=h;cases rx;cases ry;obtain⟨z,its,n,r,e⟩:=hH.ok I.hok;obtain⟨z2,its2,n2,r2,e2⟩:=hB.ok I.hok;have hl:=r.length;have hl2:=r2.length;refine PySem.P.add_list e e2 ?_ (by rw[S6,S6];lia);have ea:its.toArray++its2.toArray=(its++its2).toArray:=by simp
 rw[ea];exact⟨.ref _,_,I.LM (t':=s.toks) (r.append r2) (by rw[Tg];lia),rfl,q _ I.fresh⟩
theorem Hh:OpR X (binaryOp .Mult) CQ:=by
 intro sV s σ H x y v u Q I rx ry h;obtain⟨l,k,xs,rfl,rfl,hH,h1,h2,hz,q⟩:=h;cases rx;obtain⟨t,rfl⟩:=ry;obtain⟨z,its,n,r,e⟩:=hH.ok I.hok;have hl:=r.length;have D9:its.toArray.size*k.toNat<=sizeLine:=by rw[S6,<- hl];exact hz
 have hcap:¬its.toArray.size*k.toNat>(2 ^ 63-1) / 8:=by
  have:(sizeLine:Nat)<=(2 ^ 63-1) / 8:=by decide
  lia
 have hfit:¬(!Builtin.List.listFitsIndex k)=true:=by rw[fitsIndex_both h1 h2];exact TQ
 have Pj:¬VQ (its.toArray.size*k.toNat)=true:=by rw[Co D9];exact TQ
 have hnew:WY (fun x1 x2=>x1++x2) #[] (S5 (if its.toArray.isEmpty=true then 0 else k.toNat) its.toArray)=(S5 k.toNat its).flatten.toArray:=by
  have f0:∀m:Nat,WY (fun x1 x2=>x1++x2) #[] (S5 m its.toArray)=(S5 m its).flatten.toArray:=fun m=>by have:=foldl_rep its m [];rw[VN]at this;exact this
  rw[f0];cases its with
  |nil=>simp
  |cons a r'=>rw[if_neg (by simp)]
 refine wpAny_binaryOp_repeat_ref (T := "list") (U := "int") (by decide) ⟨_,e,rfl⟩ (fun s'=>typeIs_int s' k t) noFill_list_mul F.fills_int_mul F.slot_int_rmul repeat_list F.slot_int_index.lookup
  (call_meets F.slot_int_rmul (typeIs_int s k t) F.entry_int_rmul (F.args_int_rmul_2 _ _) (int___rmul___int_list k t l its.toArray n)
   ⟨e,rfl,⟨_,e,rfl⟩,call_meets F.slot_list_mul ⟨_,e,rfl⟩ F.entry_list_mul (F.args_list_mul_2 _ _) (AutoListH.list___mul___list_int_3 l its.toArray n k t hfit hcap Pj) ⟨e,?_⟩⟩)
 rw[hnew];exact⟨.ref _,_,I.LM (t':=s.toks) (r.rep k.toNat) (by rw[len_rep,Nat.mul_comm];exact hz),rfl,q _ I.fresh⟩
theorem Hi:OpR X (binaryOp .Add) (fun x y H Q=>rI0 (fun i j=>.int (i+j)) x y H Q\/CP x y H Q):=Lr.or Hg
theorem Hj:OpR X (binaryOp .Mult) (fun x y H Q=>rI Cf (fun i j=>.int (i*j)) x y H Q\/CQ x y H Q):=Lu.or Hh
end
theorem L_:OpD (fun x y H Q=>rI0 (fun i j=>.int (i+j)) x y H Q\/CP x y H Q) Dm.dw:=by
 intro H0 H x y dx dy z Q s rx ry e k;unfold Dm.dw at e;split at e
 ·cases e;cases aA rx;cases aA ry;exact .inl ⟨_,_,rfl,rfl,k _ H0 H (aQ.refl s) (.int _)⟩
 ·split at e
  ·rename_i hz;cases e;obtain⟨a,us,rfl,qa,ra⟩:=bD s rx;obtain⟨b,ws,rfl,qb,rb⟩:=bD s ry;refine .inr ⟨a,b,us,ws,rfl,rfl,qa,qb,by rw[ra.length,rb.length];exact jD hz,fun p hp=>?_⟩;exact k _ _ _ (aQ.lQ s hp) ⟨p,rfl,hp,s.free hp,_,aq,ra.append rb⟩
  ·cases e
 ·cases e
theorem Ma:OpD (fun x y H Q=>rI Cf (fun i j=>.int (i*j)) x y H Q\/CQ x y H Q) Dm.jz:=by
 intro H0 H x y dx dy z Q s rx ry e k;unfold Dm.jz at e;split at e
 ·split at e
  ·rename_i hj;cases e;cases aA rx;cases aA ry;exact .inl ⟨_,_,rfl,rfl,hj,k _ H0 H (aQ.refl s) (.int _)⟩
  ·cases e
 ·split at e
  ·rename_i hz;cases e;cases aA ry;obtain⟨a,us,rfl,qa,ra⟩:=bD s rx;obtain⟨h1,h2,h3⟩:=hz;unfold Dm.BIG at h1 h2;refine .inr ⟨a,_,us,rfl,rfl,qa,by lia,by lia,by rw[ra.length];exact jD h3,fun p hp=>?_⟩;exact k _ _ _ (aQ.lQ s hp) ⟨p,rfl,hp,s.free hp,_,aq,ra.rep _⟩
  ·cases e
 ·cases e
theorem Pk:OpD (G8 false) Dm.gEq:=by
 intro H0 H x y dx dy z Q s rx ry e k;unfold Dm.gEq at e;split at e
 ·rename_i hk;rw[TY]at hk;cases e;exact⟨dx,dy,rx.full s,ry.full s,hk.1,hk.2,k _ H0 H (aQ.refl s) (.bl _)⟩
 ·cases e
theorem Pn:OpD (G8 true) Dm.gNe:=by
 intro H0 H x y dx dy z Q s rx ry e k;unfold Dm.gNe at e;split at e
 ·rename_i hk;rw[TY]at hk;cases e;exact⟨dx,dy,rx.full s,ry.full s,hk.1,hk.2,k _ H0 H (aQ.refl s) (.bl _)⟩
 ·cases e
theorem JL:OpD (G9 false) Dm.gIn:=by
 intro H0 H x y dx dy z Q s rx ry e k;unfold Dm.gIn at e;split at e
 ·split at e
  ·rename_i hk;rw[TY]at hk;cases e;exact⟨dx,_,rx.full s,.inl (ry.full s),hk.1,hk.2,k _ H0 H (aQ.refl s) (.bl _)⟩
  ·cases e
 ·split at e
  ·rename_i hk;rw[TY]at hk;cases e;exact⟨dx,_,rx.full s,.inr (ry.full s),hk.1,hk.2,k _ H0 H (aQ.refl s) (.bl _)⟩
  ·cases e
 ·cases e
theorem uq:OpD (G9 true) Dm.d_:=by
 intro H0 H x y dx dy z Q s rx ry e k;unfold Dm.d_ at e;split at e
 ·split at e
  ·rename_i hk;rw[TY]at hk;cases e;exact⟨dx,_,rx.full s,.inl (ry.full s),hk.1,hk.2,k _ H0 H (aQ.refl s) (.bl _)⟩
  ·cases e
 ·split at e
  ·rename_i hk;rw[TY]at hk;cases e;exact⟨dx,_,rx.full s,.inr (ry.full s),hk.1,hk.2,k _ H0 H (aQ.refl s) (.bl _)⟩
  ·cases e
 ·cases e
theorem zl{H0:Hp}{xs:List V}{ds:List Dat}{i:Int}{d:Dat}(rs:aD H0 xs ds)(e:Dm.atI ds i=some d):∃v,L2.atI xs i=some v/\Rep H0 v d:=by
 unfold Dm.atI at e;cases q:Dm.ixN ds.length i with
 |none=>rw[q]at e;cases e
 |some j=>rw[q]at e;obtain⟨v,hv,r⟩:=rs.get (i:=j) e;refine⟨v,?_,r⟩;unfold L2.atI;rw[rs.length];have q':L2.ixN ds.length i=some j:=q;rw[q'];exact hv
theorem Po{K:Dp}:OpD (fun x y H Q=>LH K x y H Q\/OR K x y H Q) Dm.gIx:=by
 intro H0 H x y dx dy z Q s rx ry e k;unfold Dm.gIx at e;split at e
 ·rename_i ds i;cases q:Dm.atI ds i with
  |none=>rw[q]at e;cases e
  |some d=>rw[q]at e;cases e;cases aA ry;obtain⟨a,us,rfl,qa,ra⟩:=bD s rx;obtain⟨v,hv,rv⟩:=zl ra q;exact .inl ⟨a,us,i,v,rfl,rfl,.inl qa,hv,k _ H0 H (aQ.refl s) rv⟩
 ·rename_i ds i;cases q:Dm.atI ds i with
  |none=>rw[q]at e;cases e
  |some d=>rw[q]at e;cases e;cases aA ry;obtain⟨a,us,rfl,qa,ra⟩:=eL s rx;obtain⟨v,hv,rv⟩:=zl ra q;exact .inr ⟨a,us,i,v,rfl,rfl,.inl (.inl qa),hv,k _ H0 H (aQ.refl s) rv⟩
 ·cases e
theorem Mb{K:Dp}:CallD (fun xs H Q=>∃p ys,xs=[.ref p]/\(SqL K H p ys\/SqT K H p ys)/\Q (.int ys.length) H) Dm.cG:=by
 intro H0 H vs ds z Q s rs e k;unfold Dm.cG at e;split at e
 ·cases e;cases rs with
  |cons r rr=>cases rr;obtain⟨a,us,rfl,qa,ra⟩:=bD s r;exact⟨a,us,rfl,.inl (.inl qa),k _ H0 H (aQ.refl s) (by rw[ra.length];exact .int _)⟩
 ·cases e;cases rs with
  |cons r rr=>cases rr;obtain⟨a,us,rfl,qa,ra⟩:=eL s r;exact⟨a,us,rfl,.inr (.inl (.inl qa)),k _ H0 H (aQ.refl s) (by rw[ra.length];exact .int _)⟩
 ·cases e
theorem Hl:CallD (fun xs H Q=>∃i j,xs=[.int i,.int j]/\Q (.int (if j<i then j else i)) H) Dm.mP:=by
 intro H0 H vs ds z Q s rs e k;unfold Dm.mP at e;split at e
 ·cases e;cases rs with
  |cons r rr=>
   cases rr with
   |cons r' rr=>cases rr;cases aA r;cases aA r';exact⟨_,_,rfl,k _ H0 H (aQ.refl s) (.int _)⟩
 ·cases e
theorem Ho:CallD (fun xs H Q=>∃i j,xs=[.int i,.int j]/\Q (.int (if j>i then j else i)) H) Dm.mQ:=by
 intro H0 H vs ds z Q s rs e k;unfold Dm.mQ at e;split at e
 ·cases e;cases rs with
  |cons r rr=>
   cases rr with
   |cons r' rr=>cases rr;cases aA r;cases aA r';exact⟨_,_,rfl,k _ H0 H (aQ.refl s) (.int _)⟩
 ·cases e
theorem Hq{K:Dp}:CallD (fun xs H Q=>∃p ys,xs=[.ref p]/\(SqL K H p ys\/SqT K H p ys)/\∀l,H l=none->Q (.ref l) (upd H l (.lst ys))) Dm.qC:=by
 intro H0 H vs ds z Q s rs e k;unfold Dm.qC at e;split at e
 ·cases e;cases rs with
  |cons r rr=>cases rr;obtain⟨a,us,rfl,qa,ra⟩:=bD s r;exact⟨a,us,rfl,.inl (.inl qa),fun p hp=>k _ _ _ (aQ.lQ s hp) ⟨p,rfl,hp,s.free hp,_,aq,ra⟩⟩
 ·cases e;cases rs with
  |cons r rr=>cases rr;obtain⟨a,us,rfl,qa,ra⟩:=eL s r;exact⟨a,us,rfl,.inr (.inl (.inl qa)),fun p hp=>k _ _ _ (aQ.lQ s hp) ⟨p,rfl,hp,s.free hp,_,aq,ra⟩⟩
 ·cases e
theorem CS{K:Dp}:CallD (fun xs H Q=>∃p ys,xs=[.ref p]/\((SqL K H p ys/\∀l,H l=none->Q (.ref l) (upd H l (.tup ys)))\/(SqT K H p ys/\Q (.ref p) H))) Dm.j9:=by
 intro H0 H vs ds z Q s rs e k;unfold Dm.j9 at e;split at e
 ·cases e;cases rs with
  |cons r rr=>cases rr;obtain⟨a,us,rfl,qa,ra⟩:=bD s r;refine⟨a,us,rfl,.inl ⟨.inl qa,fun p hp=>?_⟩⟩;have g:=aQ.CF (o:=HO.tup us) s hp;exact k _ _ _ g (.tup aq (ra.mono g.s0))
 ·cases e;cases rs with
  |cons r rr=>
   cases rr;rcases r with r | ⟨a,_,w⟩
   ·cases r with
    |tup q rs=>exact⟨_,_,rfl,.inr ⟨.inl (.inl (s _ _ q)),k _ H0 H (aQ.refl s) (.tup q rs)⟩⟩
   ·exact T8 w
 ·cases e
noncomputable abbrev DS(X:Cx)(st:Stmt)(f:FS):Prop:=PS X st (tDS f)
noncomputable abbrev DSs(X:Cx)(st:List Stmt)(f:FS):Prop:=PSs X st (tDS f)
noncomputable abbrev DI(X:Cx)(tg it:Expr)(f:Dm.FI):Prop:=PI X tg it (tDI f)
theorem PI.weak{X:Cx}{tg it:Expr}{t t':TI}(h:PI X tg it t)(k:∀σ H R,t' σ H R->t σ H R):PI X tg it t':=fun sV s σ H R I q=>h sV s σ H R I (k σ H R q)
section
variable{X:Cx}{a b c e:Expr}{fa fb fc f:FE}{pos:Pos}
section
variable{g:Dat->Dat->Option RV}{k:Nat}{r:List V->Hp->VK->Prop}{Bu:List Expr}{x:Str}{i:Int}
theorem d_v(i:Nat)(hN:X.N[i]?=some x:=by rfl)(hv:Vis X.env.scope x:=by trivial)(hd:(x == ("__debug__" : Str))=false:=by decide)
  (J2:(x == ("__classdict__" : Str))=false:=by decide):DE X (.Name x pos) (Dm.eV i):=PE.weak (eZ hN hv hd J2) fun _ _ _=>OX
theorem d_i{j}:DE X (.Constant (.int i) j pos) (Dm.eC (.int i)):=PE.weak La fun _ _ _=>jC fun _=>.int i
theorem d_b{v:Bool}{j}:DE X (.Constant (.bool v) j pos) (Dm.eC (.bl v)):=PE.weak OE fun _ _ _=>jC fun _=>.bl v
theorem d_n{j}:DE X (.Constant .none j pos) (Dm.eC .non):=PE.weak Lb fun _ _ _=>jC fun _=>.non
theorem d_g{t:Tok}(hg:Gl X x)(hm:X.mg x=some (.int i t))(hd:(x == ("__debug__" : Str))=false:=by decide):DE X (.Name x pos) (Dm.eC (.int i)):=
 PE.weak (yU (v:=.int i) hg hm ⟨t,rfl⟩ hd) fun _ _ _=>jC fun _=>.int i
theorem p_{op:Operator}{r:R2}(o:OpR X (binaryOp op) r)(od:OpD r g)(ha:DE X a fa)(hb:DE X b fb):DE X (.BinOp a op b pos) (Dm.e2 g fa fb):=
 PE.weak (OM o ha hb) fun _ _ _=>xC od
theorem cQ(ha:DE X a fa)(hb:DE X b fb):DE X (.BinOp a .Add b pos) (Dm.e2 Dm.dw fa fb):=p_ Hi L_ ha hb
theorem jH(ha:DE X a fa)(hb:DE X b fb):DE X (.BinOp a .Sub b pos) (Dm.e2 Dm.gQ fa fb):=p_ Ls L3 ha hb
theorem jI(ha:DE X a fa)(hb:DE X b fb):DE X (.BinOp a .Mult b pos) (Dm.e2 Dm.jz fa fb):=p_ Hj Ma ha hb
theorem JM(ha:DE X a fa)(hb:DE X b fb):DE X (.BinOp a .FloorDiv b pos) (Dm.e2 Dm.xA fa fb):=p_ CO L7 ha hb
theorem mW(ha:DE X a fa)(hb:DE X b fb):DE X (.BinOp a .Mod b pos) (Dm.e2 Dm.lP fa fb):=p_ Lv L4 ha hb
theorem CT(ha:DE X a fa)(hb:DE X b fb):DE X (.BinOp a .Pow b pos) (Dm.e2 Dm.uf fa fb):=p_ Lw L5 ha hb
theorem Pp(ha:DE X a fa)(hb:DE X b fb):DE X (.BinOp a .RShift b pos) (Dm.e2 Dm.A1 fa fb):=p_ Ly L6 ha hb
theorem Mc(ha:DE X a fa)(hb:DE X b fb):DE X (.BinOp a .BitAnd b pos) (Dm.e2 Dm.CD fa fb):=p_ Lz L8 ha hb
theorem ur{op:CmpOp}{r:R2}(o:OpR X (compareOp op) r)(od:OpD r g)(ha:DE X a fa)(hb:DE X b fb)(hm:behindInMarks op b=false):DE X (.Compare a [op] [b] pos) (Dm.e2 g fa fb):=
 PE.weak (GP o ha hb hm) fun _ _ _=>xC od
theorem jJ{op:CmpOp}{r:R2}(o:OpR X (compareOp op) r)(od:OpD r g)(ha:DE X a fa)(hb:DE X b fb)(hm:behindInMarks op b=false):DT X (.Compare a [op] [b] pos) (Dm.tV (Dm.e2 g fa fb)):=
 PT.weak (GQ o ha hb hm) fun σ H Q h=>xC od (sj h)
theorem RT(ha:DE X a fa)(hb:DE X b fb):DE X (.Compare a [.Lt] [b] pos) (Dm.e2 Dm.gLt fa fb):=ur JC JJ ha hb (d8 _)
theorem RU(ha:DE X a fa)(hb:DE X b fb):DE X (.Compare a [.LtE] [b] pos) (Dm.e2 Dm.gLe fa fb):=ur yZ zk ha hb (d8 _)
theorem AX(hr:aX k X.A)(ha:DE X a fa)(hb:DE X b fb)(hm:behindInMarks .In b=false:=by rfl):DE X (.Compare a [.In] [b] pos) (Dm.e2 Dm.gIn fa fb):=ur (CN hr) JL ha hb hm
theorem Pq(hr:aX k X.A)(ha:DE X a fa)(hb:DE X b fb)(hm:behindInMarks .NotIn b=false:=by rfl):DE X (.Compare a [.NotIn] [b] pos) (Dm.e2 Dm.d_ fa fb):=ur (qG hr) uq ha hb hm
theorem su(hr:aX k X.A)(ha:DE X a fa)(hb:DE X b fb):DT X (.Compare a [.Eq] [b] pos) (Dm.tV (Dm.e2 Dm.gEq fa fb)):=jJ (L0 hr) Pk ha hb (d8 _)
theorem lR(hr:aX k X.A)(ha:DE X a fa)(hb:DE X b fb):DT X (.Compare a [.NotEq] [b] pos) (Dm.tV (Dm.e2 Dm.gNe fa fb)):=jJ (L1 hr) Pn ha hb (d8 _)
theorem Hr(ha:DE X a fa)(hb:DE X b fb):DT X (.Compare a [.Lt] [b] pos) (Dm.tV (Dm.e2 Dm.gLt fa fb)):=jJ JC JJ ha hb (d8 _)
theorem RW(ha:DE X a fa)(hb:DE X b fb):DT X (.Compare a [.LtE] [b] pos) (Dm.tV (Dm.e2 Dm.gLe fa fb)):=jJ yZ zk ha hb (d8 _)
theorem uu(ha:DE X a fa)(hb:DE X b fb):DT X (.Compare a [.Gt] [b] pos) (Dm.tV (Dm.e2 Dm.gGt fa fb)):=jJ ON Pg ha hb (d8 _)
theorem Pr(ha:DE X a fa)(hb:DE X b fb):DT X (.Compare a [.GtE] [b] pos) (Dm.tV (Dm.e2 Dm.gGe fa fb)):=jJ OO Ph ha hb (d8 _)
theorem RX(hr:aX k X.A)(ha:DE X a fa)(hb:DE X b fb)(hm:behindInMarks .In b=false:=by rfl):DT X (.Compare a [.In] [b] pos) (Dm.tV (Dm.e2 Dm.gIn fa fb)):=jJ (CN hr) JL ha hb hm
theorem Pu(hr:aX k X.A)(ha:DE X a fa)(hb:DE X b fb)(hm:behindInMarks .NotIn b=false:=by rfl):DT X (.Compare a [.NotIn] [b] pos) (Dm.tV (Dm.e2 Dm.d_ fa fb)):=jJ (qG hr) uq ha hb hm
theorem aN(ha:DE X a fa)(hb:DE X b fb)(hs:rX b:=by intro _ _;rfl):DE X (.Subscript a b pos) (Dm.e2 Dm.gIx fa fb):=PE.weak (JE (za.or LI) ha hb hs) fun _ _ _=>xC Po
theorem ah:DA X [] []:=PA.weak mH fun _ _ _=>OY
theorem aa{es:List Expr}{fs:List FE}(h:DE X e f)(r:DA X es fs)(hs:starEach (e::es) X.env=(false,eval e X.env)::starEach es X.env:=by rfl):DA X (e::es) (f::fs):=PA.weak (ju h r hs) fun _ _ _=>LS
theorem dg{es:List Expr}{fs:List FE}{x1}(h:DA X es fs):DE X (.Tuple es x1 pos) (Dm.dj fs):=PE.weak (LF h) fun _ _ _=>OZ
theorem dh{es:List Expr}{fs:List FE}(h:DA X es fs):DE X (.List es pos) (Dm.d9 fs):=PE.weak (Ck h) fun _ _ _=>O0
theorem CU{es:List Expr}{fs:List FE}{g:List Dat->Option RV}{id:String}{p:Pos}(hc:dM X (.builtin id) r)(cd:CallD r g)(hv:bootBuiltins x=some (.builtin id))(hg:Gl X x)(hm:X.mg x=none)(ha:DA X (e::es) fs)
  (hn:x ≠ "__name__" := by decide) (Qu:(x == ("__debug__" : Str))=false:=by decide) (he:starEach (e::es) X.env=(false,eval e X.env)::starEach es X.env:=by rfl) (Fd:(backTo pos (starEach es X.env)).any (·.1)=false:=by rfl) :
  DE X (.Call (.Name x p) (e::es) [] pos) (Dm.eB g fs):=PE.weak (mK hc hg hm hv ha hn Qu he Fd) fun _ _ _=>G3 cd
theorem Me{es:List Expr}{fs:List FE}{g:List Dat->Option RV}{T:String}{p:Pos}(hc:dM X (.type T) r)(cd:CallD r g)(hv:bootBuiltins x=some (.type T))(hg:Gl X x)(hm:X.mg x=none)(ha:DA X (e::es) fs)
  (hn:x ≠ "__name__" := by decide) (Qu:(x == ("__debug__" : Str))=false:=by decide) (he:starEach (e::es) X.env=(false,eval e X.env)::starEach es X.env:=by rfl) (Fd:(backTo pos (starEach es X.env)).any (·.1)=false:=by rfl) :
  DE X (.Call (.Name x p) (e::es) [] pos) (Dm.eB g fs):=PE.weak (qz hc hg hm hv ha hn Qu he Fd) fun _ _ _=>G3 cd
variable{es:List Expr}{fs:List FE}{p:Pos}
theorem cR(hg:Gl X "len")(hm:X.mg "len" = none)(ha:DA X [e] fs)(he:starEach [e] X.env=[(false,eval e X.env)]:=by rfl)(Fd:(backTo pos (starEach [] X.env)).any (·.1)=false:=by rfl):DE X (.Call (.Name "len" p) [e] [] pos) (Dm.eB Dm.cG fs):=CU rY Mb PySem.boot_len hg hm ha (he:=he) (Fd:=Fd)
theorem xH(hc:X.calm=true)(hg:Gl X "min")(hm:X.mg "min" = none)(ha:DA X [a,b] fs)(he:starEach [a,b] X.env=(false,eval a X.env)::starEach [b] X.env:=by rfl)(Fd:(backTo pos (starEach [b] X.env)).any (·.1)=false:=by rfl):DE X (.Call (.Name "min" p) [a,b] [] pos) (Dm.eB Dm.mP fs):=CU (AQ hc) Hl (by rfl) hg hm ha (he:=he) (Fd:=Fd)
theorem xJ(hc:X.calm=true)(hg:Gl X "max")(hm:X.mg "max" = none)(ha:DA X [a,b] fs)(he:starEach [a,b] X.env=(false,eval a X.env)::starEach [b] X.env:=by rfl)(Fd:(backTo pos (starEach [b] X.env)).any (·.1)=false:=by rfl):DE X (.Call (.Name "max" p) [a,b] [] pos) (Dm.eB Dm.mQ fs):=CU (AO hc) Ho (by rfl) hg hm ha (he:=he) (Fd:=Fd)
theorem CV(hg:Gl X "list")(hm:X.mg "list" = none)(ha:DA X [e] fs)(he:starEach [e] X.env=[(false,eval e X.env)]:=by rfl)(Fd:(backTo pos (starEach [] X.env)).any (·.1)=false:=by rfl):DE X (.Call (.Name "list" p) [e] [] pos) (Dm.eB Dm.qC fs):=Me rZ Hq (by rfl) hg hm ha (he:=he) (Fd:=Fd)
theorem zm(hg:Gl X "tuple")(hm:X.mg "tuple" = none)(ha:DA X [e] fs)(he:starEach [e] X.env=[(false,eval e X.env)]:=by rfl)(Fd:(backTo pos (starEach [] X.env)).any (·.1)=false:=by rfl):DE X (.Call (.Name "tuple" p) [e] [] pos) (Dm.eB Dm.j9 fs):=Me p8 CS (by rfl) hg hm ha (he:=he) (Fd:=Fd)
theorem aB{F:Addr}{fd:FuncData}{ps:List Str}{g:List Dat->Option RV}(G:aR X.prog X.w X.K X.mg X.base CX0 k F fd ps (spD g))(hr:aX k X.A)(hg:Gl X x)(hm:X.mg x=some (.ref F))(hk:Ut X.K (.ref F)=true)(hb:Binds X.K fd ps [])
  (ha:DA X (e::es) fs) (Qu:(x == ("__debug__" : Str))=false:=by decide) (he:starEach (e::es) X.env=(false,eval e X.env)::starEach es X.env:=by rfl) (Fd:(backTo pos (starEach es X.env)).any (·.1)=false:=by rfl) :
  DE X (.Call (.Name x p) (e::es) [] pos) (Dm.eF g fs):=PE.weak (l7 G hr hg hm hk hb .nil (ua (X:=X)) ha Qu he Fd) fun _ _ _=>xD
theorem Pw{t:FT}{q:Expr}(hq:DT X q t)(ha:DE X a fa)(hb:DE X b fb):DE X (.IfExp q a b pos) (Dm.eIf t fa fb):=PE.weak (B6 hq ha hb) fun _ _ _=>RJ
theorem zo{op}(h:DE X a fa):DE X (.BoolOp op [a] pos) fa:=Le h
theorem uw(ha:DE X a fa)(hb:DE X (.BoolOp .And (b::Bu) pos) fb):DE X (.BoolOp .And (a::b::Bu) pos) (Dm.lO fa fb):=PE.weak (Lf ha hb) fun _ _ _=>O3
theorem Px(ha:DE X a fa):DE X (.UnaryOp .Not a pos) (Dm.A0 fa):=PE.weak (Lg ha) fun _ _ _=>O4
noncomputable abbrev DW(X:Cx)(e:Expr)(f:FT):Prop:=PW X e (tDT f)
theorem PW.weak{t t':TT}(h:PW X e t)(k:∀σ H Q,t' σ H Q->t σ H Q):PW X e t':=fun whole sV s σ H Q I q=>h whole sV s σ H Q I (k σ H Q q)
variable{ta tb:FT}
theorem xK(h:DT X a ta):DW X (.BoolOp .And [a] pos) ta:=pw_and1 h
theorem kX(h:DT X a ta):DW X (.BoolOp .Or [a] pos) ta:=pw_or1 h
theorem w_and(ha:DT X a ta)(hb:DW X (.BoolOp .And (b::Bu) pos) tb):DW X (.BoolOp .And (a::b::Bu) pos) (Dm.lJ ta tb):=PW.weak (pw_and ha hb) fun _ _ _=>LV
theorem w_or(ha:DT X a ta)(hb:DW X (.BoolOp .Or (b::Bu) pos) tb):DW X (.BoolOp .Or (a::b::Bu) pos) (Dm.tOr ta tb):=PW.weak (pw_or ha hb) fun _ _ _=>O5
theorem t_w(h:DW X a ta):DT X a ta:=h.pt
theorem fM(h:DT X a ta):DT X (.UnaryOp .Not a pos) (Dm.ez ta):=PT.weak (Ld h) fun _ _ _=>LU
theorem eN(h:DE X e f)(he:∀whole,isTrue e X.env whole=(do let v <- whole;standAt e.pos;holding [v] (truthy v)):=by intro _;rfl):DT X e (Dm.tV f):=PT.weak (Lc h he) fun _ _ _=>sj
variable{tg:Expr}
theorem A5(hg:Gl X "range")(hm:X.mg "range" = none)(ha:DA X [a] [fa])(hs:starEach [a] X.env=[(false,eval a X.env)]:=by rfl):DI X tg (.Call (.Name "range" p) [a] [] pos) (Dm.iR1 fa):=
 PI.weak (AJ hg hm ha hs) fun _ _ _=>Pc
theorem A6(hg:Gl X "range")(hm:X.mg "range" = none)(ha:DA X [a,b] [fa,fb])(hs:starEach [a,b] X.env=[(false,eval a X.env),(false,eval b X.env)]:=by rfl)(hs2:starEach [b] X.env=[(false,eval b X.env)]:=by rfl):DI X tg (.Call (.Name "range" p) [a,b] [] pos) (Dm.iR2 fa fb):=
 PI.weak (AK hg hm ha hs hs2) fun _ _ _=>Pd
end
end
section
variable{X:Cx}{st:Stmt}{Bu:List Stmt}{fs gs:FS}{e a b c:Expr}{f fa fb:FE}{pos:Pos}
section
variable{is:List Nat}{x:Str}{body:List Stmt}{es:List Expr}{t:FT}
theorem bV:DSs X [] Dm.sNx:=PSs.weak yV fun _ _ _=>RK
theorem ai(h1:DS X st fs)(h2:DSs X Bu gs):DSs X (st::Bu) (Dm.aF fs gs):=PSs.weak (jo h1 h2) fun _ _ _=>O7
theorem av(h1:DS X st fs):DSs X [st] fs:=yW h1
theorem s_a(i:Nat){pos':Pos}(hN:X.N.Nodup)(he:DE X e f)(hi:X.N[i]?=some x:=by rfl)(hx:Loc X.env.scope x:=by trivial)(hs:swapsWith e (some (.Name x pos')) pos.line X.env=pure false:=by rfl)
  (hf:X.fn x=true\/X.env.scope.names.lookup x=some .local:=by trivial):DS X (.Assign [.Name x pos'] e pos) (Dm.sA i f):=PS.weak (Ln hN hi hx he hs hf) fun _ _ _=>CI
theorem f6:PGs X [] (fX []):=GL
theorem aY(i:Nat){px:Pos}(hN:X.N.Nodup)(h2:PGs X es (fX is))(hi:X.N[i]?=some x:=by rfl)(hx:Loc X.env.scope x:=by trivial)
  (hf:X.fn x=true\/X.env.scope.names.lookup x=some .local:=by trivial) (hs:(assignEach (.Name x px::es) X.env).map (·.2)=assign (.Name x px) X.env::(assignEach es X.env).map (·.2):=by rfl):PGs X (.Name x px::es) (fX (i::is)):=B9 (rW hN hi hx hf) h2 hs
theorem s_e(he:DE X e f)(hs:swapsWith e none pos.line X.env=pure false:=by rfl):DS X (.Expr e pos) (Dm.sE f):=PS.weak (l6 he hs) fun _ _ _=>LW
theorem s_r(he:DE X e f):DS X (.Return (some e) pos) (Dm.sR f):=PS.weak (Lh he) fun _ _ _=>O8
theorem dB{x y:List Stmt}(ht:DT X c t)(ha:DSs X x fs)(hb:DSs X y gs):DS X (.If c x y pos) (Dm.sIf t fs gs):=PS.weak (Jy ht ha hb) fun _ _ _=>O9
theorem gG:DS X st (fun _=>none):=PS.weak B8 fun _ _ _ ⟨_,_,_,_,z,_⟩=>by cases z
theorem ux(i:Nat){px ap cp:Pos}(he:DE X e f)(hi:X.N[i]?=some x:=by rfl)(hv:Vis X.env.scope x:=by trivial)(hd:(x == ("__debug__" : Str))=false:=by decide)
  (J2:(x == ("__classdict__" : Str))=false:=by decide) (Qp:attributeBase (.Name x px) "append" X.env (eval (.Name x px) X.env)=eval (.Name x px) X.env:=by rfl)
  (hfew:((backTo cp (starEach [e] X.env)).all (fun x=>!x.1)&&(backToKw cp (keywordEach [] X.env)).all (fun x=>x.1.isSome)
   && decide ([e].length+([]:List Keyword).length+(if ([]:List Keyword).isEmpty then 0 else 1)<30))=true:=by rfl)
  (Nb:(ap.endLine == cp.line)=true:=by rfl) (hs:starEach [e] X.env=(false,eval e X.env)::starEach [] X.env:=by rfl) (Ij:(backTo cp (starEach [] X.env)).any (·.1)=false:=by rfl)
  (hsw:swapsWith (.Call (.Attribute (.Name x px) "append" ap) [e] [] cp) none pos.line X.env=pure false:=by rfl) :
  DS X (.Expr (.Call (.Attribute (.Name x px) "append" ap) [e] [] cp) pos) (Dm.p9 i f):=
 PS.weak (l6 (zb Vt PySem.F.slot_list_append PySem.F.type_list_append j5 (eZ hi hv hd J2) (aa he ah hs) Qp hfew Nb hs Ij) hsw) fun _ _ _=>O_
theorem JN(i:Nat){j:Expr}{fj:FE}{px sp:Pos}(hj:DE X j fj)(he:DE X e f)(hi:X.N[i]?=some x:=by rfl)(hv:Vis X.env.scope x:=by trivial)(hd:(x == ("__debug__" : Str))=false:=by decide)
  (J2:(x == ("__classdict__" : Str))=false:=by decide) (ha:∀ v,assign (.Subscript (.Name x px) j sp) X.env v=(do
   let ov <- holding [v] (eval (.Name x px) X.env)
   let iv <- holding [v,ov] (eval j X.env)
   standAt sp
   holding [v,ov,iv] (setItem ov iv v)
   release [v,ov,iv] []):=by intro _;rfl)
  (hs:swapsWithSole [.Subscript (.Name x px) j sp] e pos.line X.env=pure false:=by rfl) (hw:swappedStores [.Subscript (.Name x px) j sp] e X.env=pure none:=by rfl) (h1:(assignEach [.Subscript (.Name x px) j sp] X.env).map (·.2)=[assign (.Subscript (.Name x px) j sp) X.env]:=by rfl) :
  DS X (.Assign [.Subscript (.Name x px) j sp] e pos) (Dm.xy i fj f):=PS.weak (Lm he (Ll (eZ hi hv hd J2) hj set_list ha) hs hw h1) fun _ _ _=>Pa
theorem Py(n:Nat)(hp:PassesOwn (model X.prog X.w) X.A X.env X.xe)(ht:DT X c t)(hb:DSs X body fs):DS X (.While c body [] pos) (Dm.whD t fs n):=PS.weak (Cb hp ht hb) fun _ _ _=>G4
structure TG'(X:Cx)(tg:Expr)(is:List Nat)(bd:Dm.FB):Prop where
 ex:∃g,PG X tg g/\BD is g bd
theorem g_n(i:Nat){px:Pos}(hN:X.N.Nodup)(hi:X.N[i]?=some x:=by rfl)(hx:Loc X.env.scope x:=by trivial)(hf:X.fn x=true\/X.env.scope.names.lookup x=some .local:=by trivial) :
  TG' X (.Name x px) [i] (Dm.bN i):=⟨⟨_,rW hN hi hx hf,zg i⟩⟩
theorem g_t{k:Nat}{tpos:Pos}(hc:X.calm=true)(hg:PGs X es (fX is))(hn:(assignEach es X.env).length=is.length:=by rfl)(hst:(assignEach es X.env).findIdx? (·.1)=none:=by rfl):TG' X (.Tuple es k tpos) is (Dm.bT is):=
 ⟨⟨_,B_ hc hg hn hst,CJ is rfl⟩⟩
theorem dW{tg it:Expr}{fi:Dm.FI}{bd:Dm.FB}(hp:PassesOwn (model X.prog X.w) X.A X.env X.xe)(hc:X.calm=true)(hi:DI X tg it fi)(hg:TG' X tg is bd)(hb:DSs X body fs)
  (hs:∀x,foldedSetIterable it X.env x=pure x:=by intro _;rfl):DS X (.For tg it body [] pos) (Dm.fm fi bd fs):=by
 obtain⟨g,h1,h2⟩:=hg.ex;exact PS.weak (Ce hp hc hi h1 hb hs) fun _ _ _=>Pb h2
end
end
noncomputable def tyName:Dat->String
 |.non => "NoneType"
 |.bl _ => "bool"
 |.int _ => "int"
 |.str _ => "str"
 |.tup _ => "tuple"
 |.lst _ => "list"
 |.dct _ _ => "dict"
 |.exc _ => "dict"
 |.fn _ => "dict"
def A7(T:String)(p:Dat->Bool):Prop:=∀(K:Dp) (d:Dat),Xh K (.type (tyName d)) (.type T)=some (p d)
theorem Ht:A7 "int" Dm.isI:=fun K d=>by cases d<;>rfl
theorem CW:A7 "bool" Dm.isB:=fun K d=>by cases d<;>rfl
theorem uy:A7 "list" Dm.isL:=fun K d=>by cases d<;>rfl
theorem kit_tuple:A7 "tuple" Dm.isT:=fun K d=>by cases d<;>rfl
theorem CY{K:Dp}{H:Hp}{v:V}{d:Dat}(r:Rep H v d)(nx:∀C,d≠.exc C/\d≠.fn C):jt K H v (.type (tyName d)):=by
 cases r with
 |non=>exact .non
 |bl b=>exact .bl b
 |int i=>exact .int i
 |str s=>exact .str _
 |tup q _=>exact .tup q
 |lst q _=>
  rcases q with q | ⟨o,q⟩
  ·exact .lst q
  ·exact .frz q
 |dct q _ _=>exact .dK q
 |exc _=>exact absurd rfl (nx _).1
 |fn _=>exact absurd rfl (nx _).2
def Pz(K:Dp)(T:String):List V->Hp->VK->Prop:=fun xs H Q=>∃x t b,xs=[x,.ty T]/\jt K H x t/\Xh K t (.type T)=some b/\Q (.bl b) H
section
variable{X:Cx}{e:Expr}{f:FE}{p p2 pos:Pos}
theorem CZ{T:String}:dM X (.builtin "isinstance") (Pz X.K T):=by intro sV s σ H xs us Q I r h;obtain⟨x,t,b,rfl,ty,e,q⟩:=h;obtain⟨u,u2,rfl,rx,ry⟩:=vals2 r;cases ry;exact AS I rx ty e fun tk=>⟨.bl b,H,I.tok tk,rfl,q⟩
theorem PB{K:Dp}{T:String}{p:Dat->Bool}(kp:A7 T p){σ:L2.St}{H:Hp}{Q:VK}(h:tD (Dm.e1 (Dm.r_ p) f) σ H Q):tCB (Pz K T) (qt (tD f) (qt (tC (.ty T)) xu)) σ H Q:=by
 obtain⟨H0,ρ,x,ρ',st,e,k⟩:=h;unfold Dm.e1 at e;split at e
 ·cases e
 rename_i x1 ρ1 e1;split at e
 ·cases e
 rename_i dx p1;have nx:∀C,dx≠.exc C/\dx≠.fn C:=fun C=>⟨fun z=>(by subst z;cases e),fun z=>(by subst z;cases e)⟩;have ev:Dm.r_ p dx=Dm.vB (p dx):=by cases dx<;>first | rfl | exact absurd rfl (nx _).1 | exact absurd rfl (nx _).2
 rw[ev]at e;dsimp only at e;cases e;refine⟨H0,ρ,x1,_,st,e1,fun v H1 Hb t1 r1=>?_⟩;exact⟨v,_,_,rfl,CY ((r1.look t1.st p1).full t1.st.same) nx,kp K dx,k _ H1 Hb t1 (Rep.bl _)⟩
theorem qH{T:String}{tn:Str}{p':Dat->Bool}(kp:A7 T p')(hvT:bootBuiltins tn=some (.type T))(hgT:Gl X tn)(hmT:X.mg tn=none)(hg:Gl X "isinstance")(hm:X.mg "isinstance" = none)(h:DE X e f)
  (hn:tn ≠ "__name__" := by decide) (Qu:(tn == ("__debug__" : Str))=false:=by decide)
  (he:starEach [e,.Name tn p2] X.env=(false,eval e X.env)::starEach [.Name tn p2] X.env:=by rfl) (Fd:(backTo pos (starEach [.Name tn p2] X.env)).any (·.1)=false:=by rfl) (he2:starEach [.Name tn p2] X.env=(false,eval (.Name tn p2) X.env)::starEach [] X.env:=by rfl) :
  DE X (.Call (.Name "isinstance" p) [e,.Name tn p2] [] pos) (Dm.e1 (Dm.r_ p') f):=
 PE.weak (mK CZ hg hm PyProof.Rows.boot_isinstance (ju h (ju (GK (v:=.ty T) hgT hmT hvT rfl hn Qu) mH he2) he) (he:=he) (Fd:=Fd)) fun _ _ _=>PB kp
theorem all_range(bs:List Bool):(S3 bs.length).all (fun i=>bs.getD i true)=bs.all id:=by
 rw[Xa,Ug,Ug];constructor
 ·intro h b hb;obtain⟨i,hi,rfl⟩:=List.mem_iff_getElem.mp hb;have:=h i (Tw.mpr hi);rw[UP,Tf hi]at this;exact this
 ·intro h i hi;have hi:=Tw.mp hi;rw[UP,Tf hi];exact h _ (List.getElem_mem hi)
theorem A8(hc:X.calm=true):dM X (.builtin "all") (fun xs H Q=>∃(a:Addr) (bs:List Bool),xs=[.ref a]/\Rd H a (.lst (bs.map V.bl))/\Q (.bl (bs.all id)) H):=by
 intro sV s σ H xs us Q I r h;obtain⟨a,bs,rfl,hq,q⟩:=h;obtain⟨u,rfl,rx⟩:=vals1 r;cases rx;obtain⟨z,its,n,rv,e⟩:=hq.ok I.hok;have hl:s.heap.IsList a its.toArray:=⟨_,e,rfl,_,rfl⟩
 have D9:=rv.length;rw[Dk]at D9;have hax:a≠s.heap.objs.size:=Ti (S9 e);refine PySem.call_all_walk (wpAny_pyIter_list hl ⟨s.heap.objs.size,_,_,_,_,_,fun i=>bs.getD i true,rfl,Walks.list (A:=X.A.in1) (I.ok.hd hc) s.heap.objs.size a hax its.toArray,⟨⟨_,To _ rfl,rfl,rfl⟩,hl.push _⟩,?_,fun h' tk hk=>?_⟩)
 ·intro i v s' Q' E' hv hQ';have hv':its[i]?=some v:=by simpa using hv
  have hi:i<bs.length:=by rw[D9];exact(S7.mp hv').1
  have hb:(bs.map V.bl)[i]?=some (V.bl bs[i]):=by rw[TJ,Tf hi];rfl
  obtain⟨u,hu,ru⟩:=rv.get hb;rw[hv']at hu;cases hu;cases ru;refine wpAny_truthy_bool ?_;have e2:bs.getD i true=bs[i]:=by rw[UP,Tf hi];rfl
  rw[<- e2];exact hQ'
 ·have e1:its.toArray.size=bs.length:=by rw[S6,D9]
  rw[e1,all_range];refine⟨.bl _,H,I.kept (t':=tk) fun b o eb=>hk b o ?_ (Ds _ eb),rfl,q⟩;intro hm;have:b=s.heap.objs.size:=by simpa using hm
  exact absurd (S9 eb) (by rw[this];exact Uz _)
end
section
variable{X:Cx}{a b c e:Expr}{f fa fb fc:FE}{p p2 pos:Pos}
section
variable{g h:Dat->Dat->Option RV}
theorem Hu{r r':R2}(o1:OpD r g)(o2:OpD r' h){σ:L2.St}{H:Hp}{Q:VK}(hh:tD (Dm.mR g h fa fb fc) σ H Q):Cg r r' (tD fa) (tD fb) (tD fc) σ H Q:=by
 obtain⟨H0,ρ,x,ρ',st,e,k⟩:=hh;unfold Dm.mR at e;split at e
 ·cases e
 rename_i x1 ρ1 e1;split at e
 ·cases e
 rename_i y1 ρ2 e2;split at e
 ·cases e
 rename_i dx p1;split at e
 ·cases e
 rename_i dy p2;refine⟨H0,ρ,x1,ρ1,st,e1,fun v H1 Hb t1 r1=>⟨H1,ρ1,y1,ρ2,t1.st,e2,fun u H2 Hc t2 r2=>?_⟩⟩;split at e
 ·rename_i gz;refine o1 H2 Hc v u dx dy _ _ t2.st.same ((r1.mono t2).look t2.st p1) (r2.look t2.st p2) gz fun w H3 Hd g3 r3=>?_;refine⟨true,Rep.se r3,?_⟩;rw[if_pos rfl];have t3:=t2.trans (.grow t2.st g3);have r2':=r2.mono (.grow t2.st g3);split at e
  ·cases e
  rename_i z ρ3 e3;split at e
  ·cases e
  rename_i dy' p3;split at e
  ·cases e
  rename_i dz p4;split at e
  ·cases e
  rename_i w2 hz;cases e;refine⟨H3,ρ2,z,_,t3.st,e3,fun w' H4 He t4 r4=>?_⟩;refine o2 H4 He u w' dy' dz w2 Q t4.st.same ((r2'.mono t4).look t4.st p3) (r4.look t4.st p4) hz fun w5 H5 Hf g5 r5=>?_;exact k w5 H5 Hf (t1.trans (t3.trans (t4.trans (.grow t4.st g5)))) ((r5.toV t4.st).early fun a n=>(t1.trans (t3.trans t4)).stp.gone n)
 ·rename_i gz;cases e;refine o1 H2 Hc v u dx dy _ _ t2.st.same ((r1.mono t2).look t2.st p1) (r2.look t2.st p2) gz fun w H3 Hd g3 r3=>?_;refine⟨false,Rep.se r3,?_⟩;rw[if_neg TQ];exact k _ H3 Hd (t1.trans (t2.trans (.grow t2.st g3))) (Rep.bl false)
 ·cases e
theorem Hv{op op':CmpOp}{r r':R2}(o1:OpR X (compareOp op) r)(q1:OpD r g)(o2:OpR X (compareOp op') r')(q2:OpD r' h)(ha:DE X a fa)(hb:DE X b fb)(hc:DE X c fc)
  (hm:lastMarks [op,op'] [b,c]=false:=by with_unfolding_all rfl):DE X (.Compare a [op,op'] [b,c] pos) (Dm.mR g h fa fb fc):=PE.weak (Ci o1 o2 ha hb hc hm) fun _ _ _=>Hu q1 q2
end
end
section
variable{X:Cx}{nm:List Str}{MY tg iter:Expr}{J3:List Expr}{scope:Scope}{pos:Pos}{own:List Str}{fi:Dm.FI}{bd:Dm.FB}{is:List Nat}{t:FT}{f:FE}
noncomputable abbrev DTs(X:Cx)(J3:List Expr)(t:FT):Prop:=PTs X J3 (tDT t)
theorem bX:DTs X [] Dm.bZ:=fun sV s σ H Q I h=>by obtain⟨H0,ρ,b,ρ',st,e,k⟩:=h;cases e;exact zh sV s σ H Q I (k H0 H (.refl st))
theorem cA{c:Expr}(h:DT X c t):DTs X [c] t:=G7 h
structure TGc(X:Cx)(nm:List Str)(scope:Scope)(own:List Str)(tg:Expr)(is:List Nat)(bd:Dm.FB):Prop where
 ex:∃g,(∀cl C s H fp,PG (bf X nm scope own cl C s H fp) tg g)/\BD is g bd
theorem c_n(i:Nat){x:Str}{px:Pos}(hN:(nm++own).Nodup)(hi:(nm++own)[i]?=some x)(hx:(relabel scope X.env).names.lookup x=some .local):TGc X nm scope own (.Name x px) [i] (Dm.bN i):=
 ⟨⟨_,fun cl C s H fp=>rW (X:=bf X nm scope own cl C s H fp) hN hi (.inl hx) (.inr hx),zg i⟩⟩
theorem c_t{es:List Expr}{k:Nat}{tpos:Pos}(hc:X.calm=true)(hg:∀cl C s H fp,PGs (bf X nm scope own cl C s H fp) es (fX is))(hn:∀cl C,(assignEach es (compEnvC scope cl C X.env)).length=is.length:=by intro _ _;rfl)
  (hst:∀cl C,(assignEach es (compEnvC scope cl C X.env)).findIdx? (·.1)=none:=by intro _ _;rfl):TGc X nm scope own (.Tuple es k tpos) is (Dm.bT is):=
 ⟨⟨_,fun cl C s H fp=>B_ (X:=bf X nm scope own cl C s H fp) hc (hg cl C s H fp) (hn cl C) (hst cl C),CJ is rfl⟩⟩
theorem Mf(hc:X.calm=true)(S:cX X nm scope)(hi:DI X tg iter fi)(hg:TGc X nm scope own tg is bd)(ht:∀cl C s H fp,DTs (bf X nm scope own cl C s H fp) J3 t)(he:∀cl C s H fp,DE (bf X nm scope own cl C s H fp) MY f)
  (hl:∀i∈is,X.N.length<=i) (hs:∀x,foldedSetIterable iter X.env x=pure x:=by intro _;rfl):DE X (.ListComp MY [⟨tg,iter,J3,0⟩] scope pos) (Dm.bU fi own.length bd t f):=by
 obtain⟨g,h1,h2⟩:=hg.ex;intro sV s σ H Q I h;exact zj hc S hi h1 ht he hs sV s σ H Q I (xG h2 (fun i hi=>by rw[I.len];exact hl i hi) h)
theorem Mg(j:Nat){y:Str}{py Qq:Pos}(hN:X.N.Nodup)(hc:X.calm=true)(S:cX X nm scope)(hi:DI X tg iter fi)(hg:TGc X nm scope own tg is bd)(ht:∀cl C s H fp,DTs (bf X nm scope own cl C s H fp) J3 t)(he:∀cl C s H fp,DE (bf X nm scope own cl C s H fp) MY f)
  (hl:∀i∈is,X.N.length<=i) (hj:X.N[j]?=some y:=by rfl) (hy:Loc X.env.scope y:=by trivial)
  (hsw:swapsWith (.ListComp MY [⟨tg,iter,J3,0⟩] scope pos) (some (.Name y py)) Qq.line X.env=pure true:=by rfl) (hs:∀x,foldedSetIterable iter X.env x=pure x:=by intro _;rfl)
  (hf:X.fn y=true\/X.env.scope.names.lookup y=some .local:=by trivial):DS X (.Assign [.Name y py] (.ListComp MY [⟨tg,iter,J3,0⟩] scope pos) Qq) (Dm.sA j (Dm.bU fi own.length bd t f)):=by
 obtain⟨g,h1,h2⟩:=hg.ex;intro sV s σ H D I h;exact fY hN hj hy hc S hi h1 ht he hsw hs hf sV s σ H D I (xG h2 (fun i hi=>by rw[I.len];exact hl i hi) (CI h))
end
theorem mX{H0:Hp}:∀{ds:List Dat} {bs:List Bool} {vs:List V},aD H0 vs ds->Dm.bools ds=some bs->vs=bs.map V.bl
 |[],bs,vs,r,e=>by cases r;cases e;rfl
 |.bl b::ds,bs,vs,r,e=>by
  cases r with
  |cons r rs=>
   unfold Dm.bools at e;cases q:Dm.bools ds with
   |none=>rw[q]at e;cases e
   |some cs=>rw[q]at e;cases e;cases Rep.se r;rw[mX rs q];rfl
 |.non::ds,bs,vs,r,e=>by cases e
 |.int _::ds,bs,vs,r,e=>by cases e
 |.str _::ds,bs,vs,r,e=>by cases e
 |.tup _::ds,bs,vs,r,e=>by cases e
 |.lst _::ds,bs,vs,r,e=>by cases e
 |.dct _ _::ds,bs,vs,r,e=>by cases e
theorem Mh:CallD (fun xs H Q=>∃(a:Addr) (bs:List Bool),xs=[.ref a]/\Rd H a (.lst (bs.map V.bl))/\Q (.bl (bs.all id)) H) Dm.ug:=by
 intro H0 H vs ds z Q s rs e k;unfold Dm.ug at e;split at e
 ·split at e
  ·rename_i bs hb;cases e;cases rs with
   |cons r rr=>cases rr;obtain⟨a,us,rfl,qa,ra⟩:=bD s r;have:=mX ra hb;subst this;exact⟨a,bs,rfl,qa,k _ H0 H (aQ.refl s) (.bl _)⟩
  ·cases e
 ·cases e
section
variable{X:Cx}{a b c e:Expr}{f:FE}{fs:List FE}{p p2 pos:Pos}
theorem C0(hc:X.calm=true)(hg:Gl X "all")(hm:X.mg "all" = none)(ha:DA X [e] fs)(he:starEach [e] X.env=[(false,eval e X.env)]:=by rfl)(Fd:(backTo pos (starEach [] X.env)).any (·.1)=false:=by rfl) :
  DE X (.Call (.Name "all" p) [e] [] pos) (Dm.eB Dm.ug fs):=CU (A8 hc) Mh (by rfl) hg hm ha (he:=he) (Fd:=Fd)
end
noncomputable def cI(sc:Scope):List Str->List Str->Bool
 |[],[]=>true
 |x::N,y::nm=>(x == y||(sc.names.lookup y).isNone)&&cI sc N nm
 |_,_=>false
theorem cI.len{sc:Scope}:∀{N nm:List Str},cI sc N nm=true->nm.length=N.length
 |[],[],_=>rfl
 |[],_::_,h=>by cases h
 |_::_,[],h=>by cases h
 |x::N,y::nm,h=>by rw[cI,TY]at h;rw[TV,TV,cI.len h.2]
theorem cI.at{sc:Scope}:∀{N nm:List Str},cI sc N nm=true->∀(i:Nat) (x:Str),nm[i]?=some x->N[i]?=some x\/sc.names.lookup x=none
 |[],[],_,i,x,e=>by simp at e
 |[],_::_,h,_,_,_=>by cases h
 |_::_,[],h,_,_,_=>by cases h
 |x::N,y::nm,h,0,z,e=>by
  rw[cI,TY,Bool.or_eq_true]at h;simp at e;subst e;rcases h.1 with q | q
  ·have:x=y:=by simpa using q
   subst this;exact .inl rfl
  ·exact .inr (by simpa using q)
 |x::N,y::nm,h,i+1,z,e=>by rw[cI,TY]at h;rw[V3]at e ⊢;exact cI.at h.2 i z e
noncomputable def mY(osc:Scope)(N nm:List Str)(sc:Scope):Bool:=
 sc.names.all (fun y=>y.2 != .cell)&&sc.names.all (fun y=>y.2 != .local||sc.names.lookup y.1 == some .local) &&
 sc.names.all (fun y=>y.2 != .free||(osc.names.lookup y.1 == some .cell||osc.names.lookup y.1 == some .free))&&nm.all (fun x=>sc.names.lookup x != some .local)&&cI sc N nm
theorem cX.of{X:Cx}{nm:List Str}{scope:Scope}(h:mY X.env.scope X.N nm scope=true)(hk:scope.kind=.function):cX X nm scope:=by
 unfold mY at h;simp only[TY,Ug]at h;obtain⟨⟨⟨⟨h1,h2⟩,h3⟩,h4⟩,h5⟩:=h;refine⟨hk,fun y hy=>?_,fun y hy hl=>?_,fun y hy hf=>?_,fun x hx=>?_,cI.len h5,cI.at h5⟩
 ·have:=h1 y hy;simpa using this
 ·have:=h2 y hy;rw[hl]at this
  simpa using this
 ·have:=h3 y hy;rw[hf]at this;have:(X.env.scope.names.lookup y.1 == some .cell||X.env.scope.names.lookup y.1 == some .free)=true:=by simpa using this
  rw[Bool.or_eq_true,beq_iff_eq,beq_iff_eq]at this;exact this
 ·have:=h4 x hx;simpa using this
section
variable{X:Cx}{MY tg iter:Expr}{J3:List Expr}{scope:Scope}{pos:Pos}{fi:Dm.FI}{bd:Dm.FB}{is:List Nat}{t:FT}{f:FE}
theorem uz{l:List Nat}{n:Nat}(h:(l.all fun i=>decide (n<=i))=true):∀i∈l,n<=i:=fun i hi=>of_decide_eq_true (Ug.mp h i hi)
theorem Hw(nm own:List Str)(hg:TGc X nm scope own tg is bd)(hi:DI X tg iter fi)(ht:∀cl C s H fp,DTs (bf X nm scope own cl C s H fp) J3 t)(he:∀cl C s H fp,DE (bf X nm scope own cl C s H fp) MY f)
  (hc:X.calm=true:=by rfl) (hk:scope.kind=.function:=by rfl) (hS:mY X.env.scope X.N nm scope=true:=by rfl) (hl:(is.all fun i=>decide (X.N.length<=i))=true:=by rfl) (hs:∀x,foldedSetIterable iter X.env x=pure x:=by intro _;rfl) :
  DE X (.ListComp MY [⟨tg,iter,J3,0⟩] scope pos) (Dm.bU fi own.length bd t f):=Mf hc (cX.of hS hk) hi hg ht he (uz hl) hs
theorem Hx(j:Nat)(nm own:List Str){y:Str}{py Qq:Pos}(hN:X.N.Nodup)(hg:TGc X nm scope own tg is bd)(hi:DI X tg iter fi)(ht:∀cl C s H fp,DTs (bf X nm scope own cl C s H fp) J3 t)(he:∀cl C s H fp,DE (bf X nm scope own cl C s H fp) MY f)
  (hc:X.calm=true:=by rfl) (hk:scope.kind=.function:=by rfl) (hS:mY X.env.scope X.N nm scope=true:=by rfl) (hl:(is.all fun i=>decide (X.N.length<=i))=true:=by rfl) (hj:X.N[j]?=some y:=by rfl) (hy:Loc X.env.scope y:=by trivial)
  (hsw:swapsWith (.ListComp MY [⟨tg,iter,J3,0⟩] scope pos) (some (.Name y py)) Qq.line X.env=pure true:=by rfl) (hs:∀x,foldedSetIterable iter X.env x=pure x:=by intro _;rfl)
  (hf:X.fn y=true\/X.env.scope.names.lookup y=some .local:=by trivial):DS X (.Assign [.Name y py] (.ListComp MY [⟨tg,iter,J3,0⟩] scope pos) Qq) (Dm.sA j (Dm.bU fi own.length bd t f)):=
 Mg j hN hc (cX.of hS hk) hi hg ht he (uz hl) hj hy hsw hs hf
end
section
variable{f:FE}{a:Addr}{X:Cx}{K:Dp}{H:Hp}
theorem PI.or{tg it:Expr}{t t':TI}(h:PI X tg it t)(h':PI X tg it t'):PI X tg it (fun σ H R=>t σ H R\/t' σ H R):=fun sV s σ H R I q=>q.elim (h sV s σ H R I) (h' sV s σ H R I)
theorem PD{σ:L2.St}{R:It->Hp->Prop}(h:tDI (Dm.iS f) σ H R):tY K (tD f) σ H R\/Cc K (tD f) σ H R:=by
 obtain⟨H0,ρ,ys,ρ',st,e,k⟩:=h;unfold Dm.iS at e;split at e
 ·cases e
 rename_i x ρ1 e1;split at e
 ·rename_i ds ρ2 e2;cases e;exact .inl (RL ⟨H0,ρ,_,_,st,by unfold Dm.iL;rw[e1];dsimp only;rw[e2],k⟩)
 ·rename_i ds ρ2 e2;cases e;exact .inr (RM ⟨H0,ρ,_,_,st,by unfold Dm.iT;rw[e1];dsimp only;rw[e2],k⟩)
 ·cases e
theorem i_S{tg e:Expr}(h:DE X e f):DI X tg e (Dm.iS f):=PI.weak (PI.or (yY h) (Cd h)) fun _ _ _=>PD
noncomputable def C1(K:Dp):Bool:=K.all fun p=>match p.2.cls with | .type n=>n != "list" | _=>true
theorem lookup_mem{o:Obj}:∀{K:List (Addr×Obj)},K.lookup a=some o->(a,o)∈K
 |[],h=>by cases h
 |(b,x)::r,h=>by
  rw[Ui]at h;cases q:a == b with
  |true=>
   rw[q]at h;cases h;have:a=b:=by simpa using q
   rw[this];exact gV
  |false=>rw[q]at h;exact gc _ (lookup_mem h)
theorem Mi{f:List Dat->Option RV}{ns:List Int}{E:XK}(hf:f [.lst (ns.map Dat.int)]=some (.val (.bl true)))(hK:C1 K=true)(hS:SqL K H a (ns.map V.int)) :
  spD f [.ref a] H (fun v _=>v=.bl true) E:=by
 have hq:Rd H a (.lst (ns.map V.int)):=by
  rcases hS with h | ⟨o,its,n,hk,hc,_⟩
  ·exact h
  ·have:=Ug.mp hK _ (lookup_mem hk);dsimp only at this;rw[hc]at this;exact absurd this (by decide)
 have hr:∀ns:List Int,aD H (ns.map V.int) (ns.map Dat.int):=fun ns=>by
  induction ns with
  |nil=>exact .nil
  |cons n ns ih=>exact .cons (.int n) ih
 exact⟨H,_,_,au.refl _,.cons (.lst hq (hr ns)) .nil,hf,fun v H0' H' _ r=>Rep.se r⟩
end
end Br
namespace Dm
noncomputable def iRd(a b c:FE):FI:=fun ρ=>match a ρ with
 | some (.val (.int i),ρ1)=>(match b ρ1 with
  | some (.val (.int j),ρ2)=>(match c ρ2 with
   |some (.val (.int k),ρ3)=>if k=-1/\j<=BIG/\-BIG<=j/\i<=BIG/\-BIG<=i then some (downs i (i-j).toNat,ρ3) else none
   |_=>none)
  |_=>none)
 |_=>none
noncomputable def A9(a:FE):FI:=fun ρ=>match a ρ with
 |none=>none
 |some (x,ρ1)=>match tk ρ1 x with
  |some (.lst ds,ρ2)=>some (ds.reverse,ρ2)
  |_=>none
noncomputable def jK:Nat->List Dat->List Dat
 |_,[]=>[]
 |i,d::ds=>.tup [.int (i:Nat),d]::jK (i+1) ds
noncomputable def iEn(a:FE):FI:=fun ρ=>match a ρ with
 |none=>none
 |some (x,ρ1)=>match tk ρ1 x with
  |some (.lst ds,ρ2)=>some (jK 0 ds,ρ2)
  |_=>none
noncomputable def mZ(d:Dat):Option RV:=match d with
 |.lst ds=>some (.new (.lst ds.reverse))
 |_=>none
noncomputable def qI:List Dat->Option RV
 |[.int j]=>if j<=1000000/\-1000000<=j then some (.new (.lst (ups 0 j.toNat))) else none
 |_=>none
end Dm
namespace Br
open PySem PySem.Spec PyProof.Rows L2
theorem qJ{X:Cx}{sV:List (Addr×Obj)}{σ:L2.St}{H:Hp}{s:Shared}{h':Heap}{t':Nat}{fp:List Addr}{p:Addr}{o:HO}(I:Inv X sV σ H s)(hf:∀b∈fp,mD X sV H b)
  (k:∀b u,b∉fp->s.heap.get? b=some u->h'.get? b=some u) (hp:s.heap.objs.size<=p) (new:aU X.prog X.w (upd H p o) h' p o):Inv X sV σ (upd H p o) { s with heap:=h',toks:=t' }:=by
 have hn:H p=none:=I.hok.fresh hp;have nf:∀b u,H b=some u->b∉fp:=fun b u e z=>by rw[(hf b z).1]at e;cases e
 have nL:X.env.locals∉fp:=fun z=>(hf _ z).2.1 rfl;refine I.step (g':=s.gens) (d':=s.drawn) (ch:=fp) (fun b hb=>?_) (fun b u _ _ hc e _=>k b u hc e) (fun b u _ _ hc e _=>⟨u.slots,k b u hc e⟩)
  (fun b u _ e n=>by rw[aj (Ti (Tj (S9 e) hp))];exact n) (fun b u hc e=>⟨u,k b u hc e⟩)
  (fun b xs q=>by rw[aj (aC q hn)];exact q) (fun b u xs q=>by rw[aj (aC q hn)];exact q) (fun b _ _ _ q=>by rw[aj (aC q hn)];exact q) (fun m hm=>?_) (fun b u e=>?_) I.bare
 ·obtain⟨f0,f1,f2,f3,f4,f5⟩:=hf b hb;exact⟨f3,f1,f4,f5⟩
 ·obtain⟨o,es,ep,ho,r⟩:=hm;exact⟨o,es,ep,k _ o nL ho,r⟩
 ·by_cases hb:b=p
  ·subst hb;rw[aq]at e;cases e;exact new
  ·rw[aj hb]at e;refine(I.hok b u e).stay (fun c v hc q=>k c v ?_ q) (fun c q=>by rw[aj (aC q hn)];exact q) (fun c _ _ q=>by rw[aj (aC q hn)];exact q) fun c xs q=>by rw[aj (aC q hn)];exact q
   rcases hc with z | z
   ·rw[z];exact nf b u e
   ·exact nf c _ z
noncomputable def Itv(K:Dp)(a:Addr)(n:Nat):It:=
 ⟨fun i H=>∃xs x,SqL K H a xs/\xs.length=n/\xs.reverse[i]?=some x,fun i H x H'=>H'=H/\∀xs,SqL K H a xs->xs.reverse[i]?=some x,fun i H=>n<=i⟩
theorem C2{P:Program}{w:World}{K:Dp}{tg:Expr}(a it:Addr)(n:Nat):Turn P w K tg (Itv K a n) [it] it (fun i h=>i<=n/\h.IsRevIter it a ((n:Int)-1-(i:Nat))) where
 mem:=by simp
 obj:=fun i h st b hb=>by
  have e:b=it:=by simpa using hb
  subst e;obtain⟨_,o,e,c,d⟩:=st;exact⟨o,e,fun v z=>by rw[d]at z;cases z⟩
 keep:=fun i h h' st k=>⟨st.1,st.2.at fun o e=>k it (by simp) o e⟩
 item:=by
  intro X hP hw hK hc i sV s σ H E I hf st hg;subst hP hw hK;obtain⟨xs,x,hq,hl,hx⟩:=hg;obtain⟨its,rv,p,hz⟩:=I.list hq;have hi:i<n:=by have:=(S7.mp hx).1;rw[UL,hl]at this;exact this
  rw[Wn (by lia),hl]at hx;obtain⟨u,hu,ru⟩:=rv.get hx;obtain⟨f0,f1,f2,f3,f4,f5⟩:=hf it (by simp);obtain⟨_,st⟩:=st;have ei:((n:Int)-1-(i:Nat))=((n-1-i:Nat):Int):=by lia
  rw[ei]at st;refine wpAny_pyNext_rev_item st p.isList (x:=u) (by simpa using hu) fun h' st' sb=>?_;have ej:((n-1-i:Nat):Int)-1=(n:Int)-1-((i+1:Nat):Int):=by lia
  rw[ej]at st';have I1:Inv X sV σ H { s with heap:=h' }:=I.turned (t':=s.toks) (fun b o hb e=>(sb.2 b hb).trans e) f0 f1 f3 f4 f5;obtain⟨o,e,c,d⟩:=id st';refine⟨u,rfl,yX (s:={ s with heap:=h' }) e c d (by decide) ⟨x,H,I1,ru,⟨rfl,fun ys hy=>?_⟩,⟨hi,st'⟩,fun b hb=>(hf b hb).1⟩⟩;rw[I.fT hy hq,Wn (by lia),hl];exact hx
 done:=by
  intro X hP hw hK hc i sV s σ H E I hf st hg;subst hP hw hK;obtain⟨f0,f1,f2,f3,f4,f5⟩:=hf it (by simp);obtain⟨h1,st⟩:=st;have h2:n<=i:=hg;have ei:((n:Int)-1-(i:Nat))=-1:=by lia
  rw[ei]at st;exact wpAny_pyNext_rev_end (I.ok.hd hc) st fun h' eb=>⟨rfl,I.turned (t':=s.toks) (fun b o hb e=>eb b o hb e) f0 f1 f3 f4 f5⟩
 self:=fun _ _ _ _ _ st h=>wpAny_pyIter_revIter st.2 h
def JO(K:Dp)(tl:TE):TI:=fun σ H R=>tl σ H fun x H1=>∃a xs,x=.ref a/\SqL K H1 a xs/\R (Itv K a xs.length) H1
section
variable{X:Cx}{tg l:Expr}{tl:TE}{p pos:Pos}
theorem C3{Q:Value->Shared->Prop}{Qx:VK}{sV:List (Addr×Obj)}{s:Shared}{σ:L2.St}{H:Hp}(hg:Gl X "reversed")(hm:X.mg "reversed" = none)(hl:PE X l tl)(hs:starEach [l] X.env=[(false,eval l X.env)])(I:Inv X sV σ H s)(h:tl σ H Qx)
  (k:∀x H1 s1,Inv X sV σ H1 s1->Qx x H1->∃a xs,x=.ref a/\SqL X.K H1 a xs/\∀its:List Value,Vals xs its->PlainL s1.heap a its.toArray->xs.length<=sizeLine->Q (.ref s1.heap.objs.size) { s1 with heap:=s1.heap.push (revObj a ((its.toArray.size:Int)-1)) }) :
  wpAny (model X.prog X.w) X.A (eval (.Call (.Name "reversed" p) [l] [] pos) X.env) Q X.xe s:=by
 refine Call_ (cW I hg hm boot_reversed (Ub (spliced_more ?_ (by rw[hs];rfl)) (by rw[hs];rfl) rfl));refine thn (hl sV s σ H _ I h) fun v s1 ⟨x,H1,I1,r1,q1⟩=>?_;obtain⟨a,xs,e,hq,q⟩:=k x H1 s1 I1 q1;subst e;cases r1;obtain⟨its,rv,pl,hz⟩:=I1.list hq;refine U1 (call_reversed_list pl.isList (q its rv pl hz))
theorem Mj(hg:Gl X "reversed")(hm:X.mg "reversed" = none)(hl:PE X l tl)(hs:starEach [l] X.env=[(false,eval l X.env)]:=by rfl):PI X tg (.Call (.Name "reversed" p) [l] [] pos) (JO X.K tl):=by
 intro sV s σ H R I h;refine C3 hg hm hl hs I h fun x H1 s1 I1 q1=>?_;obtain⟨a,xs,e,hq,q⟩:=q1;refine⟨a,xs,e,hq,fun its rv pl hz=>?_⟩;have hn:(its.toArray.size:Int)=((xs.length:Nat):Int):=by rw[S6,rv.length]
 have st:({ s1 with heap:=s1.heap.push (revObj a ((its.toArray.size:Int)-1)) }:Shared).heap.IsRevIter s1.heap.objs.size a (((xs.length:Nat):Int)-1-((0:Nat):Int)):=⟨_,To _ rfl,rfl,by rw[hn];simp[revObj]⟩
 refine wpAny_pyIter_revIter st ?_;refine⟨s1.heap.objs.size,[s1.heap.objs.size],_,_,H1,rfl,I1.kept (t':=s1.toks) fun b o e=>Ds _ e,C2 a _ xs.length,⟨TM _,st⟩,fun b hb=>?_,q⟩;have e:b=s1.heap.objs.size:=by simpa using hb
 subst e;exact I1.xm (PU _) (I1.hok.fresh (PU _))
end
noncomputable def Ite(K:Dp)(a:Addr):It:=
 ⟨fun i H=>∃xs x,SqL K H a xs/\xs[i]?=some x,fun i H x H'=>∃p v,H p=none/\x=.ref p/\H'=upd H p (.tup [.int i,v])/\∀xs,SqL K H a xs->xs[i]?=some v,fun i H=>∃xs,SqL K H a xs/\xs.length<=i⟩
theorem A_{P:Program}{w:World}{K:Dp}{elts:List Expr}{x1}{tp:Pos}(a e it:Addr)(J5:e≠it):Turn P w K (.Tuple elts x1 tp) (Ite K a) [e,it] e (fun i h=>(∃old,IsEnum h e it (i:Nat) old)/\h.IsListIter it a i) where
 mem:=by simp
 obj:=fun i h st b hb=>by
  obtain⟨⟨old,he⟩,o,e1,c,d⟩:=st;rcases S4.mp hb with rfl | hb
  ·exact ⟨_,he,fun v z=>by have z':Xy _=W8 v:=z;cases z'⟩
  ·have e2:b=it:=by simpa using hb
   subst e2;exact⟨o,e1,fun v z=>by rw[d]at z;cases z⟩
 keep:=fun i h h' st k=>⟨let ⟨old,he⟩:=st.1;⟨old,k e (by simp) _ he⟩,st.2.at fun o z=>k it (by simp) o z⟩
 item:=by
  intro X hP hw hK hc i sV s σ H E I hf st hg;subst hP hw hK;obtain⟨xs,x,hq,hx⟩:=hg;obtain⟨its,rv,p,hz⟩:=I.list hq;obtain⟨u,hu,ru⟩:=rv.get hx;obtain⟨⟨old,he⟩,ER⟩:=st;refine wpAny_pyNext_enum_item he ER p.isList (x:=u) (by simpa using hu) J5 fun h1 heo RY ht1 hz1 hk1=>?_;refine⟨_,rfl,wpAny_letOwnedTupleGo_enum heo fun h2 he2 hs2=>?_⟩;have En:e<s.heap.objs.size:=S9 he;have ht2:h2.get? s.heap.objs.size=some { cls:=.type "tuple",data:=.seq #[.int i s.toks,u] }:=(hs2.2 _ (UC En)).trans ht1;have k2:∀b o,b∉[e,it]->s.heap.get? b=some o->h2.get? b=some o:=fun b o hb z=>by have n1:b≠e:=fun y=>hb (by simp[y]);have n2:b≠it:=fun y=>hb (by simp[y]);exact(hs2.2 b n1).trans (hk1 b o n1 n2 z)
  have hn:H s.heap.objs.size=none:=I.hok.fresh (PU _);have I2:Inv X sV σ (upd H s.heap.objs.size (.tup [.int i,x])) { s with heap:=h2,toks:=s.toks+1 }:=
   qJ I hf k2 (PU _) ⟨by simp[sizeLine],[.int i s.toks,u],.cons ⟨s.toks,rfl⟩ (.cons ru .nil),_,ht2,rfl,_,rfl⟩
  refine⟨.ref s.heap.objs.size,_,I2,rfl,⟨_,x,hn,rfl,rfl,fun ys hy=>by rw[I.fT hy hq];exact hx⟩,⟨⟨u,?_⟩,?_⟩,fun b hb=>?_⟩
  ·have:(((i+1:Nat):Int))=(i:Int)+1:=by lia
   rw[this];exact he2
  ·exact RY.at fun o z=>(hs2.2 it (Ne.symm J5)).trans z
  ·have hb1:b≠s.heap.objs.size:=fun y=>by
    rcases S4.mp hb with z | z
    ·rw[y]at z;exact absurd z (UC En)
    ·have z':b=it:=by simpa using z
     obtain⟨o,ho,_⟩:=ER;have:=S9 ho;rw[<- z',y]at this;exact Uz _ this
   rw[aj hb1];exact(hf b hb).1
 done:=by intro X hP hw hK hc i sV s σ H E I hf st hg;subst hP hw hK;obtain⟨xs,hq,hx⟩:=hg;obtain⟨its,rv,p,hz⟩:=I.list hq;obtain⟨f0,f1,f2,f3,f4,f5⟩:=hf it (by simp);obtain⟨⟨old,he⟩,ER⟩:=st;have hl:=rv.length;exact wpAny_pyNext_enum_end (I.ok.hd hc) he ER p.isList (by simp;lia) fun h' eb=>⟨rfl,I.turned (t':=s.toks) (fun b o hb e=>eb b o hb e) f0 f1 f3 f4 f5⟩
 self:=fun A i s Q E st h=>by
  obtain⟨⟨old,he⟩,ER⟩:=st;have hT:s.TypeIs (.ref e) "enumerate" := ⟨_,he,rfl⟩
  refine wpAny_pyIter_slot hT F.slot_enumerate_iter (wpAny_call_entry F.slot_enumerate_iter hT F.entry_enumerate_iter ?_ (F.args_enumerate_iter_1 _));show wpAny _ _ (ret (.ref e)) _ _ s;exact wpAny_pure ⟨_,rfl,"enumerate",_,hT,F.slot_enumerate_next.lookup,h⟩
def PF(K:Dp)(tl:TE):TI:=fun σ H R=>tl σ H fun x H1=>∃a,x=.ref a/\(∃xs,SqL K H1 a xs)/\R (Ite K a) H1
section
variable{X:Cx}{l:Expr}{tl:TE}{p pos:Pos}{elts:List Expr}{x1:Nat}{tp:Pos}
theorem Hy(hg:Gl X "enumerate")(hm:X.mg "enumerate" = none)(hl:PE X l tl)(hs:starEach [l] X.env=[(false,eval l X.env)]:=by rfl):PI X (.Tuple elts x1 tp) (.Call (.Name "enumerate" p) [l] [] pos) (PF X.K tl):=by
 intro sV s σ H R I h;refine Call_ (cW I hg hm boot_enumerate (Ub (spliced_more ?_ (by rw[hs];rfl)) (by rw[hs];rfl) rfl));refine thn (hl sV s σ H _ I h) fun v s1 ⟨x,H1,I1,r1,q1⟩=>?_;obtain⟨a,e,⟨xs,hq⟩,q⟩:=q1;subst e;cases r1;obtain⟨its,rv,pl,hz⟩:=I1.list hq;refine U1 (call_enumerate_list pl.isList fun h' he ER hsz k=>?_);have I2:Inv X sV σ H1 { s1 with heap:=h' }:=I1.kept (t':=s1.toks) k;have T:=A_ (P:=X.prog) (w:=X.w) (K:=X.K) (elts:=elts) (x1:=x1) (tp:=tp) a (s1.heap.objs.size+1) s1.heap.objs.size (Nat.succ_ne_self _);refine T.self X.A 0 { s1 with heap:=h' } _ X.xe ⟨⟨_,he⟩,ER⟩ ?_;refine⟨s1.heap.objs.size+1,[s1.heap.objs.size+1,s1.heap.objs.size],_,_,H1,rfl,I2,T,⟨⟨_,he⟩,ER⟩,fun b hb=>?_,q⟩;have:s1.heap.objs.size<=b:=by
  rcases S4.mp hb with rfl | hb
  ·exact WL _
  ·have:b=s1.heap.objs.size:=by simpa using hb
   exact W0 this.symm
 exact I1.xm this (I1.hok.fresh this)
end
theorem xM:typeLookup (.type "list_reverseiterator") "__len__" = pure none:=by rw[typeLookup_type,builtinLookup_eq_fast];kernel_rfl
theorem C4:typeLookup (.type "list_reverseiterator") "__length_hint__" = pure (some (.builtin "list_reverseiterator.__length_hint__")):=by rw[typeLookup_type,builtinLookup_eq_fast];kernel_rfl
section
variable{prog:Program}{w:World}{A:Around}{E:Value->Shared->Prop}{s:Shared}
section
variable{I l:Addr}
theorem C5{i:Int}{Q:Bool->Shared->Prop}(ER:s.heap.IsRevIter I l i)(h:Q false s):wpAny (model prog w) A (U8 (.ref I)) Q E s:=by
 unfold U8;refine wpAny_bind (wpAny_specialOf ER.typeIs xM ?_);show wpAny _ A (specialOf (Tz I) (VR "__length_hint__") >>= _) _ _ _;refine wpAny_bind (wpAny_specialOf ER.typeIs C4 ?_)
 generalize hid:("list_reverseiterator.__length_hint__" : String)=id0
 wp_delta
 rw[show splitId id0=some ("list_reverseiterator","__length_hint__") from by subst hid;decide +kernel];subst hid;refine wpAny_bind (wpAny_isInstance (T := "list_reverseiterator") (b:=true) ER.typeIs (by rw[isSubtype_type];kernel_rfl) ?_);refine wpAny_ite_split (fun M7=>absurd M7 (by decide)) (fun _=>?_);refine wpAny_ite_split (fun _=>?_) (fun M7=>absurd (by decide +kernel) M7);refine wpAny_ite_split (fun M7=>absurd M7 (by decide +kernel)) (fun _=>wpAny_pure h)
theorem xN{R:Result->Shared->Prop}{items:Array Value}(hh:A.handled=none)(ER:s.heap.IsRevIter I l ((items.size:Int)-1))(hl:s.heap.IsList l items)(J5:l≠I)(D9:items.size<=sizeLine)
  (S:Addr) (res:Value) (c₀:Nat) (hSI:S≠I) (hSl:S≠l) (hS:s.heap.get? S=some { cls:=.type "list",data:=.seq #[] c₀ })
  (hR:∀ h' tk acc' c',(∀ b o,b≠S→b≠I→s.heap.get? b=some o→h'.get? b=some o)→h'.get? S=some { cls:=.type "list",dict:=none,data:=.seq acc' c',slots:=#[] } →
   ItemsOf (fun i v=>items[items.size-1-i]?=some v) acc' items.size->R (.ok (.ret res)) { s with heap:=h',toks:=tk }) :
  wpAny (model prog w) A.in1 (U9 (.ref S) (.ref I) res)
   (fun Fp s'=>match Fp with | .done f=>R (.ok f) s' | .again c'=>c'.quiet=true/\codeAny (model prog w) A c' R s') (fun e s'=>R (.error e) s') s:=by
 have hSf:S∉[I,l]:=fun hm=>by
  rcases S4.mp hm with z | z
  ·exact hSI z
  ·exact hSl (Th.mp z)
 have W:=(Walks.listRev (prog:=prog) (w:=w) (A:=A.in1) hh I l J5 items).toS;unfold U9;refine wpAny_bind (wpAny_typeOf (T := "list_reverseiterator") ER.typeIs ?_);have h1:Builtin.List.listSameRef (.ref S) (.ref I)=false:=by simp[Builtin.List.listSameRef,hSI]
 have h2:(Vv "list_reverseiterator" == Vv "list")=false:=by decide
 have h3:(Vv "list_reverseiterator" == Vv "tuple")=false:=by decide
 simp only[h1,h2,h3,Bool.or_false,Tc,if_false];refine wpAny_bind (wpAny_pyIter_revIter ER ?_);refine wpAny_bind (wpAny_holding (C5 ER ?_));refine wpAny_ite_split (fun M7=>absurd M7 (by decide +kernel)) (fun _=>wpAny_pure ⟨plainId_quiet F.plain_extend_loop _,?_⟩);have hst:(0<=items.size)/\s.heap.IsRevIter I l ((items.size:Int)-1-((0:Nat):Int))/\s.heap.IsList l items:=⟨TM _,by simpa using ER,hl⟩
 refine codeAny_extend_loopS W D9 S hSf res items.size 0 _ #[] c₀ rfl (TM _) hst hS (ItemsOf.nil _) fun s' acc' c' hm hS' hacc=>?_;rw[Moved.eq_with hm];refine hR s'.heap s'.toks acc' c' (fun b o hb hb2 e=>hm.heap b o (fun hmem=>?_) e) hS' hacc;rcases S4.mp hmem with e' | hmem
 ·exact hb e'
 ·exact hb2 (Th.mp hmem)
theorem C6{R:Result->Shared->Prop}{items:Array Value}(hh:A.handled=none)(ER:s.heap.IsRevIter I l ((items.size:Int)-1))(hl:s.heap.IsList l items)(J5:l≠I)(D9:items.size<=sizeLine)
  (S:Addr) (hSI:S≠I) (hSl:S≠l) (hS:s.heap.get? S=some { cls:=.type "list",data:=.seq #[] })
  (hR:∀ h' tk acc' c',(∀ b o,b≠S→b≠I→s.heap.get? b=some o→h'.get? b=some o)→h'.get? S=some { cls:=.type "list",dict:=none,data:=.seq acc' c',slots:=#[] } →
   ItemsOf (fun i v=>items[items.size-1-i]?=some v) acc' items.size->R (.ok (.ret .none)) { s with heap:=h',toks:=tk }) :
  wpAny (model prog w) A.in1 (Builtin.«list.__init__» ⟨[.ref S,.ref I],[]⟩)
   (fun Fp s'=>match Fp with | .done f=>R (.ok f) s' | .again c'=>c'.quiet=true/\codeAny (model prog w) A c' R s') (fun e s'=>R (.error e) s') s:=by
 show wpAny _ A.in1 (do let old <- Builtin.List.listItems (.ref S);Builtin.List.listUpdate (.ref S) (fun _=>#[]);letGo old.toList.reverse;U9 (.ref S) (.ref I) .none) _ _ s;refine wpAny_bind ?_;unfold Builtin.List.listItems;refine wpAny_bind (wpAny_seqItems hS rfl (wpAny_pure ?_));show wpAny _ A.in1 (updateSeq S (fun _=>#[]) >>= fun _=>letGo (#[]:Array Value).toList.reverse >>= fun _=>U9 (.ref S) (.ref I) .none) _ _ s;refine wpAny_bind (wpAny_updateSeq hS rfl ?_);have hS₂:=Vb (T5 (fun _=>(#[]:Array Value))) hS rfl;have oth:∀b o,b≠S->s.heap.get? b=some o->(s.heap.update S (T5 (fun _=>(#[]:Array Value)))).get? b=some o:=
  fun b o hb e=>(V8 _ _ (Ne.symm hb)).trans e
 refine wpAny_bind (wpAny_letGo ?_);refine xN hh (ER.at fun o e=>oth I o (Ne.symm hSI) e) (hl.at fun o e=>oth l o (Ne.symm hSl) e) J5 D9 S .none _ hSI hSl hS₂ fun h' tk acc' c' hk hS' hacc=>?_;exact hR h' tk acc' c' (fun b o hb hb2 e=>hk b o hb hb2 (oth b o hb e)) hS' hacc
theorem qc{Q:Value->Shared->Prop}{items:Array Value}(hh:A.handled=none)(ER:s.heap.IsRevIter I l ((items.size:Int)-1))(hl:s.heap.IsList l items)(J5:l≠I)(D9:items.size<=sizeLine)
  (hQ:∀ h' tk acc' c',(∀ b o,b≠I→s.heap.get? b=some o→h'.get? b=some o)→h'.get? s.heap.objs.size=some { cls:=.type "list",dict:=none,data:=.seq acc' c',slots:=#[] } →
   ItemsOf (fun i v=>items[items.size-1-i]?=some v) acc' items.size->Q (.ref s.heap.objs.size) { s with heap:=h',toks:=tk }) :
  wpAny (model prog w) A (call (.type "list") [.ref I]) Q E s:=by
 refine callType_codes (Q₁:=fun obj s₁=>obj=.ref s.heap.objs.size/\s₁={ s with heap:=s.heap.push { cls:=.type "list",data:=.seq #[] } }) F.called_list (F.typeCall_list_1 _) F.entry_list_init
  (code_list_new _ ⟨rfl,rfl⟩) fun obj s₁ h₁=>?_
 obtain⟨rfl,rfl⟩:=h₁;have hS:(s.heap.push { cls:=.type "list",data:=.seq #[] }).get? s.heap.objs.size=some { cls:=.type "list",data:=.seq #[] }:=To _ rfl;obtain⟨oi,hoi,_⟩:=id ER;obtain⟨ol,hol,_⟩:=id hl;refine⟨⟨_,hS,rfl⟩,F.args_list_init_2 _ _,C6 (A:=A.in1) hh (ER.at fun o e=>Ds _ e) (hl.at fun o e=>Ds _ e) J5 D9 _ (UC (S9 hoi)) (UC (S9 hol)) hS fun h' tk acc' c' hk hS' hacc=>?_⟩;exact⟨rfl,hQ h' tk acc' c' (fun b o hb e=>hk b o (Ti (S9 e)) hb (Ds _ e)) hS' hacc⟩
end
end
theorem m5{P:Nat->Value->Prop}{tG:Array Value}{ys:List V}(h:ItemsOf P tG ys.length)(k:∀i v,P i v->i<ys.length->∃y,ys[i]?=some y/\RelV y v):Vals ys tG.toList:=by
 have:∀(ys:List V) (us:List Value),ys.length=us.length->(∀(i:Nat) (u:Value),us[i]?=some u->∃y,ys[i]?=some y/\RelV y u)->Vals ys us:=by
  intro ys
  induction ys with
  |nil=>intro us e _;cases us with
   |nil=>exact .nil
   |cons _ _=>cases e
  |cons y ys ih=>intro us e f;cases us with
   |nil=>cases e
   |cons u us=>obtain⟨y',h1,h2⟩:=f 0 u rfl;cases h1;exact .cons h2 (ih us (by simpa using e) fun i u' hu=>by simpa using f (i+1) u' (by simpa using hu))
 refine this ys tG.toList (by have:=h.1;simp only[Te];exact this.symm) fun i u hu=>?_;have hu':tG[i]?=some u:=by rw[<- Up];exact hu
 have hi:i<ys.length:=by rw[<- h.1];exact(T9.mp hu').1
 exact k i u (h.2 i u hu') hi
def Mk(K:Dp)(tl:TE):TE:=fun σ H Q=>tl σ H fun x H1=>∃a xs,x=.ref a/\SqL K H1 a xs/\∀q,H1 q=none->Q (.ref q) (upd H1 q (.lst xs.reverse))
def PJ(ta:TA):TE:=fun σ H Q=>ta σ H fun vs H1=>∃j:Int,vs=[.int j]/\-(2 ^ 62)<=j/\j<=1000000/\∀q,H1 q=none->Q (.ref q) (upd H1 q (.lst ((S3 j.toNat).map fun i=>V.int (i:Nat))))
section
variable{X:Cx}{l a:Expr}{tl:TE}{ta:TA}{p pos p0 kj:Pos}
theorem C7(hc:X.calm=true)(hgl:Gl X "list")(hml:X.mg "list" = none)(hg:Gl X "reversed")(hm:X.mg "reversed" = none)(hl:PE X l tl)(hs:starEach [l] X.env=[(false,eval l X.env)]:=by rfl)
  (hs0:starEach [.Call (.Name "reversed" p) [l] [] pos] X.env=[(false,eval (.Call (.Name "reversed" p) [l] [] pos) X.env)]:=by rfl) :
  PE X (.Call (.Name "list" p0) [.Call (.Name "reversed" p) [l] [] pos] [] kj) (Mk X.K tl):=by
 intro sV s σ H Q I h;refine wpAny_Call_Name_kw (cW I hgl hml boot_list (Ub (spliced_more ?_ (by rw[hs0];rfl)) (by rw[hs0];rfl) rfl));refine C3 hg hm hl hs I h fun x H1 s1 I1 q1=>?_;obtain⟨a,xs,e,hq,q⟩:=q1;refine⟨a,xs,e,hq,fun its rv pl hz=>U1 ?_⟩;have hal:a<s1.heap.objs.size:=by obtain⟨o,ho,_⟩:=pl.isList;exact S9 ho
 have hn:=rv.length;refine qc (items:=its.toArray) (I.ok.hd hc) ⟨_,To _ rfl,rfl,rfl⟩ (pl.isList.at fun o e=>Ds _ e) (Ti hal) (by rw[S6,<- hn];exact hz) fun h' tk acc' c' hk hS' hacc=>?_;have hsz:({ s1 with heap:=s1.heap.push (revObj a ((its.toArray.size:Int)-1)) }:Shared).heap.objs.size=s1.heap.objs.size+1:=UT ..;have hp:s1.heap.objs.size<=({ s1 with heap:=s1.heap.push (revObj a ((its.toArray.size:Int)-1)) }:Shared).heap.objs.size:=by rw[hsz];exact WL _
 have vl:Vals xs.reverse acc'.toList:=by
  refine m5 (by rw[UL,hn,<- S6];exact hacc) fun i v hv hi=>?_;rw[UL]at hi;rw[S6]at hv;have hv':its[its.length-1-i]?=some v:=by simpa using hv
  rw[Wn hi,hn];have En:=(S7.mp hv').1;have hx:xs[its.length-1-i]?=some (xs[its.length-1-i]'(by lia)):=Tf _;obtain⟨u,hu,ru⟩:=rv.get hx;rw[hv']at hu;cases hu;exact⟨_,hx,ru⟩
 have ok:aU X.prog X.w (upd H1 ({ s1 with heap:=s1.heap.push (revObj a ((its.toArray.size:Int)-1)) }:Shared).heap.objs.size (.lst xs.reverse)) h' ({ s1 with heap:=s1.heap.push (revObj a ((its.toArray.size:Int)-1)) }:Shared).heap.objs.size (.lst xs.reverse):=⟨by rw[UL];exact hz,acc'.toList,c',vl,by simpa using hS'⟩
 exact⟨.ref _,_,I1.laid (t':=tk) (fun b u e=>hk b u (Ti (S9 e)) (Ds _ e)) hp ok,rfl,q _ (I1.hok.fresh hp)⟩
theorem Hz(hc:X.calm=true)(hgl:Gl X "list")(hml:X.mg "list" = none)(hg:Gl X "range")(hm:X.mg "range" = none)(ha:PA X [a] ta)(hs:starEach [a] X.env=[(false,eval a X.env)]:=by rfl)
  (hs0:starEach [.Call (.Name "range" p) [a] [] pos] X.env=[(false,eval (.Call (.Name "range" p) [a] [] pos) X.env)]:=by rfl) :
  PE X (.Call (.Name "list" p0) [.Call (.Name "range" p) [a] [] pos] [] kj) (PJ ta):=by
 intro sV s σ H Q I h;refine wpAny_Call_Name_kw (cW I hgl hml boot_list (Ub (spliced_more ?_ (by rw[hs0];rfl)) (by rw[hs0];rfl) rfl));refine Call_ (cW I hg hm boot_range (Ub (thn (ha pos sV s σ H _ I h) fun us s1 ⟨vs,H1,I1,r1,q1⟩=>?_) hs rfl));obtain⟨j,e,q1,q2,q⟩:=q1;subst e;cases r1 with
 |cons r rr=>
  cases rr;obtain⟨t,rfl⟩:=r;refine call_range_1 (U1 ?_);have hn:Builtin.Range.rangeSize 0 j 1=(j.toNat:Nat):=by rw[rangeSize_one];split<;>lia
  refine call_list_range (n:=j.toNat) (I.ok.hd hc) (IsRange.new ..) (small_one (by lia) (by lia) q1 (by lia)) hn (by lia) fun h' tk acc' c' hk hS' hacc=>?_;have hsz:(s1.heap.push { cls:=.type "range",data:=.fields #[.int 0 s1.toks,.int j t,.int 1 (s1.toks+1)] }).objs.size=s1.heap.objs.size+1:=UT ..;have hp:s1.heap.objs.size<=(s1.heap.push { cls:=.type "range",data:=.fields #[.int 0 s1.toks,.int j t,.int 1 (s1.toks+1)] }).objs.size:=by rw[hsz];exact WL _
  have vl:Vals ((S3 j.toNat).map fun i=>V.int (i:Nat)) acc'.toList:=by
   refine m5 (by rw[Dk,Tu];exact hacc) fun i v hv hi=>?_;obtain⟨t,rfl⟩:=hv;rw[Dk,Tu]at hi;refine⟨.int (i:Nat),by rw[TJ,UK hi];rfl,t,?_⟩;have:(0:Int)+(i:Int)*1=i:=by lia
   rw[this]
  have ok:aU X.prog X.w (upd H1 (s1.heap.push { cls:=.type "range",data:=.fields #[.int 0 s1.toks,.int j t,.int 1 (s1.toks+1)] }).objs.size (.lst ((S3 j.toNat).map fun i=>V.int (i:Nat)))) h' (s1.heap.push { cls:=.type "range",data:=.fields #[.int 0 s1.toks,.int j t,.int 1 (s1.toks+1)] }).objs.size (.lst ((S3 j.toNat).map fun i=>V.int (i:Nat))):=
   ⟨by rw[Dk,Tu,sizeLine_eq];lia,acc'.toList,c',vl,by simpa using hS'⟩
  exact⟨.ref _,_,I1.laid (t':=tk) (fun b u e=>hk b u (Ds _ e)) hp ok,rfl,q _ (I1.hok.fresh hp)⟩
end
section
variable{ds:List Dat}{xs:List V}{a:Addr}{H0:Hp}{K:Dp}
theorem aD.rev{H:Hp}(h:aD H xs ds):aD H xs.reverse ds.reverse:=by
 induction xs generalizing ds with
 |nil=>cases h;exact .nil
 |cons x xs ih=>
  cases h with
  |cons r rs=>rw[WX,WX];exact(ih rs).append (.cons r .nil)
theorem Ml(hq:Rd H0 a (.lst xs))(rs:aD H0 xs ds):JW (Itv K a xs.length) H0 ds.reverse:=by intro H0' H s0 s1;have q:SqL K H a xs:=.inl (au.rd s1 (au.rd s0 hq));refine⟨fun i hi=>by rw[UL,<- rs.length]at hi;exact hi,fun i d e=>?_⟩;obtain⟨v,hv,rv⟩:=rs.rev.get e;refine⟨⟨xs,v,q,rfl,hv⟩,fun x H' y=>?_⟩;obtain⟨e1,y⟩:=y;subst e1;have z:=y xs q;rw[hv]at z;cases z;exact⟨H0',aQ.refl s1,rv.mono s0⟩
theorem uA:∀(ds:List Dat) (i:Nat),(Dm.jK i ds).length=ds.length
 |[],_=>rfl
 |_::ds,i=>by simp[Dm.jK,uA ds]
theorem uB:∀(ds:List Dat) (i j:Nat) (d:Dat),(Dm.jK i ds)[j]?=some d->∃x,ds[j]?=some x/\d=.tup [.int ((i+j:Nat):Int),x]
 |[],_,_,_,h=>by cases h
 |x::ds,i,0,d,h=>by cases h;exact⟨x,rfl,rfl⟩
 |x::ds,i,j+1,d,h=>by
  obtain⟨y,h1,h2⟩:=uB ds (i+1) j d h;refine⟨y,h1,?_⟩;rw[h2];have:i+1+j=i+(j+1):=by lia
  rw[this]
theorem HA(hq:Rd H0 a (.lst xs))(rs:aD H0 xs ds):JW (Ite K a) H0 (Dm.jK 0 ds):=by intro H0' H s0 s1;have q:SqL K H a xs:=.inl (au.rd s1 (au.rd s0 hq));refine⟨fun i hi=>⟨xs,q,by rw[rs.length,<- uA ds 0];exact hi⟩,fun i d e=>?_⟩;obtain⟨d',hd,rfl⟩:=uB ds 0 i d e;obtain⟨v,hv,rv⟩:=rs.get hd;refine⟨⟨xs,v,q,hv⟩,fun x H' y=>?_⟩;obtain⟨p,v',hn,rfl,rfl,y⟩:=y;have z:=y xs q;rw[hv]at z;cases z;have g:=aQ.CF (o:=HO.tup [.int i,v]) s1 hn;refine⟨_,g,.tup aq (.cons ?_ (.cons ((rv.mono s0).mono g.s0) .nil))⟩;rw[Vn];exact .int _
end
section
variable{σ:L2.St}{H:Hp}{R:It->Hp->Prop}
theorem Mm{K:Dp}{f:FE}(h:tDI (Dm.A9 f) σ H R):JO K (tD f) σ H R:=by
 obtain⟨H0,ρ,ys,ρ',st,e,k⟩:=h;unfold Dm.A9 at e;split at e
 ·cases e
 rename_i x ρ1 e1;split at e
 ·rename_i ds ρ2 e2;cases e;refine⟨H0,ρ,_,ρ1,st,e1,fun v H0' H' t r=>?_⟩;obtain⟨H1,t1,b1,r1,_,_⟩:=take1 t (au.refl _) r e2;cases r1 with
  |lst q rs=>exact⟨_,_,rfl,.inl (au.rd t1.st.same q),k _ H1 H' t1 (Ml q rs)⟩
 ·cases e
theorem PK{K:Dp}{f:FE}(h:tDI (Dm.iEn f) σ H R):PF K (tD f) σ H R:=by
 obtain⟨H0,ρ,ys,ρ',st,e,k⟩:=h;unfold Dm.iEn at e;split at e
 ·cases e
 rename_i x ρ1 e1;split at e
 ·rename_i ds ρ2 e2;cases e;refine⟨H0,ρ,_,ρ1,st,e1,fun v H0' H' t r=>?_⟩;obtain⟨H1,t1,b1,r1,_,_⟩:=take1 t (au.refl _) r e2;cases r1 with
  |lst q rs=>exact⟨_,rfl,⟨_,.inl (au.rd t1.st.same q)⟩,k _ H1 H' t1 (HA q rs)⟩
 ·cases e
end
theorem C8{K:Dp}:UnD (fun x H Q=>∃a xs,x=.ref a/\SqL K H a xs/\∀q,H q=none->Q (.ref q) (upd H q (.lst xs.reverse))) Dm.mZ:=by
 intro H0 H x dx z Q s rx e k;unfold Dm.mZ at e;split at e
 ·cases e;obtain⟨a,us,rfl,qa,ra⟩:=bD s rx;exact⟨a,us,rfl,.inl qa,fun p hp=>k _ _ _ (aQ.lQ s hp) ⟨p,rfl,hp,s.free hp,_,aq,ra.rev⟩⟩
 ·cases e
theorem C9{H:Hp}:∀(n:Nat) ,aD H ((S3 n).map fun i=>V.int (i:Nat)) (Dm.ups 0 n):=by
 intro n;unfold Dm.ups;have:∀l:List Nat,aD H (l.map fun i=>V.int (i:Nat)) (l.map fun i=>Dat.int (0+(i:Nat))):=fun l=>by
  induction l with
  |nil=>exact .nil
  |cons x l ih=>rw[eg,eg,Int.zero_add];exact .cons (.int _) ih
 exact this _
theorem HB:CallD (fun xs H Q=>∃j:Int,xs=[.int j]/\-(2 ^ 62)<=j/\j<=1000000/\∀q,H q=none->Q (.ref q) (upd H q (.lst ((S3 j.toNat).map fun i=>V.int (i:Nat))))) Dm.qI:=by
 intro H0 H xs ds z Q s rx e k;unfold Dm.qI at e;split at e
 ·rename_i j;split at e
  ·rename_i hb;cases e;cases rx with
   |cons r rr=>cases rr;cases aA r;exact⟨j,rfl,by lia,hb.1,fun p hp=>k _ _ _ (aQ.lQ s hp) ⟨p,rfl,hp,s.free hp,_,aq,C9 _⟩⟩
  ·cases e
 ·cases e
section
variable{X:Cx}{tg e a b c:Expr}{f fa fb fc:FE}{p pos p0 kj:Pos}{elts:List Expr}{x1:Nat}{tp:Pos}
theorem PL(hg:Gl X "reversed")(hm:X.mg "reversed" = none)(h:DE X e f)(hs:starEach [e] X.env=[(false,eval e X.env)]:=by rfl):DI X tg (.Call (.Name "reversed" p) [e] [] pos) (Dm.A9 f):=PI.weak (Mj hg hm h hs) fun _ _ _=>Mm
theorem RZ(hg:Gl X "enumerate")(hm:X.mg "enumerate" = none)(h:DE X e f)(hs:starEach [e] X.env=[(false,eval e X.env)]:=by rfl):DI X (.Tuple elts x1 tp) (.Call (.Name "enumerate" p) [e] [] pos) (Dm.iEn f):=PI.weak (Hy hg hm h hs) fun _ _ _=>PK
theorem HC(hc:X.calm=true)(hgl:Gl X "list")(hml:X.mg "list" = none)(hg:Gl X "reversed")(hm:X.mg "reversed" = none)(h:DE X e f)(hs:starEach [e] X.env=[(false,eval e X.env)]:=by rfl)
  (hs0:starEach [.Call (.Name "reversed" p) [e] [] pos] X.env=[(false,eval (.Call (.Name "reversed" p) [e] [] pos) X.env)]:=by rfl) :
  DE X (.Call (.Name "list" p0) [.Call (.Name "reversed" p) [e] [] pos] [] kj) (Dm.e1 Dm.mZ f):=PE.weak (C7 hc hgl hml hg hm h hs hs0) fun _ _ _=>RI C8
theorem Mn(hc:X.calm=true)(hgl:Gl X "list")(hml:X.mg "list" = none)(hg:Gl X "range")(hm:X.mg "range" = none)(h:DA X [a] [fa])(hs:starEach [a] X.env=[(false,eval a X.env)]:=by rfl)
  (hs0:starEach [.Call (.Name "range" p) [a] [] pos] X.env=[(false,eval (.Call (.Name "range" p) [a] [] pos) X.env)]:=by rfl) :
  DE X (.Call (.Name "list" p0) [.Call (.Name "range" p) [a] [] pos] [] kj) (Dm.eB Dm.qI [fa]):=PE.weak (Hz hc hgl hml hg hm h hs hs0) fun _ _ _=>G3 HB
end
end Br
namespace Dm
noncomputable def aM(i:Nat)(own:Nat)(bd:FB)(t:FT)(el:FE):FE:=fun ρ=>match ρ[i]? with
 | some (.ow (.lst ds))=>if ds.length≤SZ then (match cF bd t el ds (ρ.set i .un++S5 own .un) [] with
  |none=>none
  |some (ys,ρ2)=>some (.new (.lst ys),(ρ2.take ρ.length).set i (.ow (.lst ds)))) else none
 |_=>bU (iS (eV i)) own bd t el ρ
end Dm
namespace Br
open PySem PySem.Spec PyProof.Rows L2
theorem C_{K:Dp}{H0:Hp}{a:Addr}{xs:List V}{ds:List Dat}(rs:aD H0 xs ds):JWa (Itl K a) H0 (some (a,.lst xs)) ds:=by intro H0' H s0 s1 hq;have hq:=hq _ rfl;have q:SqL K H a xs:=.inl (.inl hq);refine⟨fun i hi=>⟨xs,q,by rw[rs.length];exact hi⟩,fun i d e=>?_⟩;obtain⟨v,hv,rv⟩:=rs.get e;refine⟨⟨xs,v,q,hv⟩,fun x H' y=>?_⟩;obtain⟨e1,y⟩:=y;subst e1;have z:=y xs q;rw[hv]at z;cases z;exact⟨H0',aQ.refl s1,rv.mono s0⟩
theorem zp{K:Dp}{σ:L2.St}{H:Hp}{i own:Nat}{bd:Dm.FB}{g:TG}{t:FT}{el:FE}{is:List Nat}{Q:VK}(hb:BD is g bd)(hl:∀i∈is,σ.length<=i)(h:tD (Dm.aM i own bd t el) σ H Q) :
  tLC (fun σ H R=>tY K (tD (Dm.eV i)) σ H R\/Cc K (tD (Dm.eV i)) σ H R) own g (tDT t) (tD el) σ H Q:=by
 obtain⟨H0,ρ,x,ρ',st,e,k⟩:=h;unfold Dm.aM at e;split at e
 ·rename_i ds eo;split at e
  case isFalse=>cases e
  rename_i hsz;split at e
  ·cases e
  rename_i ys ρ2 e2;cases e;refine .inl ⟨H0,ρ,.slot i,ρ,st,by unfold Dm.eV;rw[eo],fun v H0' H' t1 r=>?_⟩;obtain⟨a,qa,na,xs,ha,rs⟩:=t1.st.ow i _ eo;obtain⟨r1,_⟩:=r;rw[qa]at r1;cases r1;have nO:¬ao σ (ρ.set i .un) a:=fun z=>by obtain⟨j,d,hj,h1,h2⟩:=cH z;exact hj (t1.st.dis j i d _ a h1 eo h2 qa)
  have En:i<ρ.length:=(S7.mp eo).1;refine⟨a,rfl,⟨xs,.inl (.inl ha)⟩,fun D hD=>uo hb hl (t1.st.mask i) (fun q e=>by cases e;exact⟨ha,na,nO⟩) (C_ rs) hsz e2 (fun v H1 Hc t2 r2 hpa=>?_) D hD⟩;obtain⟨ha2,na2⟩:=hpa _ rfl;rw[T4]at t2 r2;have oo:∀b,ao σ ((ρ2.take ρ.length).set i (.ow (.lst ds))) b->b=a\/ao σ (ρ2.take ρ.length) b:=fun b ⟨j,d,h1,h2⟩=>by
   by_cases q:i=j
   ·subst q;rw[qa]at h2;cases h2;exact .inl rfl
   ·rw[HT q]at h1;exact .inr ⟨j,d,h1,h2⟩
  have om:∀b,ao σ (ρ.set i .un) b->ao σ ρ b:=fun b z=>by obtain⟨j,d,hj,h1,h2⟩:=cH z;exact⟨j,d,h1,h2⟩
  have oa:ao σ ρ a:=⟨i,_,eo,qa⟩
  have nO2:¬ao σ (ρ2.take ρ.length) a:=fun z=>nO (t2.own a z);have Dc:(ρ2.take ρ.length).length=ρ.length:=by rw[<- t2.st.len,st.len]
  refine k v H1 Hc (t1.trans ⟨⟨t2.st.same,by rw[T4];exact t2.st.len,fun j d h=>?_,fun j d h=>?_,fun j j' d d' b h1 h2 h3 h4=>?_⟩,t2.stp.wide om,fun b z=>?_,fun j z=>?_⟩) ?_
  ·by_cases q:i=j
   ·subst q;rw[TN (by rw[Dc];exact En)]at h;cases h
   ·rw[HT q]at h;exact t2.st.sh j d h
  ·by_cases q:i=j
   ·subst q;rw[TN (by rw[Dc];exact En)]at h;cases h;exact⟨a,qa,na2,xs,ha2,rs.mono t2.stp.s0⟩
   ·rw[HT q]at h;exact t2.st.ow j d h
  ·by_cases q:i=j
   ·subst q;by_cases q':i=j'
    ·exact q'
    ·rw[HT q']at h2;rw[qa]at h3;cases h3;exact absurd ⟨j',d',h2,h4⟩ nO2
   ·rw[HT q]at h1;by_cases q':i=j'
    ·subst q';rw[qa]at h4;cases h4;exact absurd ⟨j,d,h1,h3⟩ nO2
    ·rw[HT q']at h2;exact t2.st.dis j j' d d' b h1 h2 h3 h4
  ·rcases oo b z with rfl | z
   ·exact oa
   ·exact om b (t2.own b z)
  ·trivial
  ·obtain⟨D',e',n',no',n0',w'⟩:=r2;refine⟨D',e',t1.stp.gone n',fun z=>?_,n0',w'⟩;rcases oo D' z with rfl | z
   ·rw[n']at ha;cases ha
   ·exact no' z
 ·have h2:=xG (fi:=Dm.iS (Dm.eV i)) hb hl ⟨H0,ρ,x,ρ',st,e,k⟩;exact PD h2
section
variable{X:Cx}{MY tg:Expr}{J3:List Expr}{scope:Scope}{pos px:Pos}{bd:Dm.FB}{is:List Nat}{t:FT}{f:FE}{x:Str}
theorem i_M(i:Nat)(h:DE X (.Name x px) (Dm.eV i)):PI X tg (.Name x px) (fun σ H R=>tY X.K (tD (Dm.eV i)) σ H R\/Cc X.K (tD (Dm.eV i)) σ H R):=PI.or (yY h) (Cd h)
theorem cB(i:Nat)(nm own:List Str)(hg:TGc X nm scope own tg is bd)(hi:DE X (.Name x px) (Dm.eV i))(ht:∀cl C s H fp,DTs (bf X nm scope own cl C s H fp) J3 t)(he:∀cl C s H fp,DE (bf X nm scope own cl C s H fp) MY f)
  (hc:X.calm=true:=by rfl) (hk:scope.kind=.function:=by rfl) (hS:mY X.env.scope X.N nm scope=true:=by rfl) (hl:(is.all fun i=>decide (X.N.length<=i))=true:=by rfl) (hs:∀y,foldedSetIterable (.Name x px) X.env y=pure y:=by intro _;rfl) :
  DE X (.ListComp MY [⟨tg,.Name x px,J3,0⟩] scope pos) (Dm.aM i own.length bd t f):=by
 obtain⟨g,h1,h2⟩:=hg.ex;intro sV s σ H Q I h;exact zj hc (cX.of hS hk) (i_M i hi) h1 ht he hs sV s σ H Q I (zp h2 (fun i hi=>by rw[I.len];exact uz hl i hi) h)
theorem Dd(j i:Nat)(nm own:List Str){y:Str}{py Qq:Pos}(hN:X.N.Nodup)(hg:TGc X nm scope own tg is bd)(hi:DE X (.Name x px) (Dm.eV i))(ht:∀cl C s H fp,DTs (bf X nm scope own cl C s H fp) J3 t)(he:∀cl C s H fp,DE (bf X nm scope own cl C s H fp) MY f)
  (hc:X.calm=true:=by rfl) (hk:scope.kind=.function:=by rfl) (hS:mY X.env.scope X.N nm scope=true:=by rfl) (hl:(is.all fun i=>decide (X.N.length<=i))=true:=by rfl) (hj:X.N[j]?=some y:=by rfl) (hy:Loc X.env.scope y:=by trivial)
  (hsw:swapsWith (.ListComp MY [⟨tg,.Name x px,J3,0⟩] scope pos) (some (.Name y py)) Qq.line X.env=pure true:=by rfl) (hs:∀y,foldedSetIterable (.Name x px) X.env y=pure y:=by intro _;rfl)
  (hf:X.fn y=true\/X.env.scope.names.lookup y=some .local:=by trivial):DS X (.Assign [.Name y py] (.ListComp MY [⟨tg,.Name x px,J3,0⟩] scope pos) Qq) (Dm.sA j (Dm.aM i own.length bd t f)):=by
 obtain⟨g,h1,h2⟩:=hg.ex;intro sV s σ H D I h;exact fY hN hj hy hc (cX.of hS hk) (i_M i hi) h1 ht he hsw hs hf sV s σ H D I (zp h2 (fun i hi=>by rw[I.len];exact uz hl i hi) (CI h))
end
end Br
namespace Dm
noncomputable def gR:List Dat->List Dat->List Dat
 |x::xs,y::ys=>.tup [x,y]::gR xs ys
 |_,_=>[]
noncomputable def HD(a b:FE):FI:=fun ρ=>match eAs [a,b] ρ with
 | some (vs,ρ1)=>(match tks ρ1 vs with
  |some ([.lst xs,.lst ys],ρ2)=>some (gR xs ys,ρ2)
  |_=>none)
 |none=>none
noncomputable def Ba:Dat->Dat->Option RV
 |.int i,.int j=>if 0<=j/\j<=100/\0<=i/\i<=1000000 then vI (i*2 ^ j.toNat) else none
 |_,_=>none
end Dm
namespace Br
open PySem PySem.Spec PyProof.Rows L2
theorem gZ{X:Cx}{sV:List (Addr×Obj)}{σ:L2.St}{H:Hp}{s:Shared}{h':Heap}{t':Nat}{fp:List Addr}(I:Inv X sV σ H s)(hf:∀b∈fp,mD X sV H b)
  (k:∀b u,b∉fp->s.heap.get? b=some u->h'.get? b=some u):Inv X sV σ H { s with heap:=h',toks:=t' }:=by
 have nf:∀b u,H b=some u->b∉fp:=fun b u e z=>by rw[(hf b z).1]at e;cases e
 have nL:X.env.locals∉fp:=fun z=>(hf _ z).2.1 rfl;refine I.step (g':=s.gens) (d':=s.drawn) (ch:=fp) (fun b hb=>?_) (fun b u _ _ hc e _=>k b u hc e) (fun b u _ _ hc e _=>⟨u.slots,k b u hc e⟩)
  (fun b u _ e n=>n) (fun b u hc e=>⟨u,k b u hc e⟩)
  (fun b xs q=>q) (fun b u xs q=>q) (fun _ _ _ _ q=>q) (fun m hm=>?_) (fun b u e=>?_) I.bare
 ·obtain⟨f0,f1,f2,f3,f4,f5⟩:=hf b hb;exact⟨f3,f1,f4,f5⟩
 ·obtain⟨o,es,ep,ho,r⟩:=hm;exact⟨o,es,ep,k _ o nL ho,r⟩
 ·refine(I.hok b u e).stay (fun c v hc q=>k c v ?_ q) (fun c q=>q) (fun _ _ _ q=>q) fun c xs q=>q;rcases hc with z | z
  ·rw[z];exact nf b u e
  ·exact nf c _ z
noncomputable def Itz(K:Dp)(a b:Addr):It:=
 ⟨fun i H=>∃ xs ys x y,SqL K H a xs∧SqL K H b ys∧xs[i]?=some x∧ys[i]?=some y,
  fun i H r H'=>∃p x y,H p=none/\r=.ref p/\H'=upd H p (.tup [x,y])/\(∀xs,SqL K H a xs->xs[i]?=some x)/\∀ys,SqL K H b ys->ys[i]?=some y,
  fun i H=>∃xs ys,SqL K H a xs/\SqL K H b ys/\(xs.length<=i\/ys.length<=i)⟩
theorem f7{h:Heap}{a b:Addr}{o o':Obj}(ha:h.get? a=some o)(hb:h.get? b=some o')(n:o.cls≠o'.cls):a≠b:=fun z=>by subst z;rw[ha]at hb;cases hb;exact n rfl
structure sy(z TI TO i1 i2:Addr):Prop where
 TIz:TI≠z
 TOz:TO≠z
 i1z:i1≠z
 i2z:i2≠z
 TITO:TI≠TO
 TIi1:TI≠i1
 TIi2:TI≠i2
 TOi1:TO≠i1
 TOi2:TO≠i2
 i12:i1≠i2
def De(a b z TI TO i1 i2:Addr)(i:Nat)(h:Heap):Prop:=IsZip h z TI TO .none/\IsPair h TI (.ref i1) (.ref i2)/\(∃x y,IsPair h TO x y)/\h.IsListIter i1 a i/\h.IsListIter i2 b i
theorem uC{h:Heap}{a b z TI TO i1 i2:Addr}{i:Nat}{xs ys:Array Value}(F:sy z TI TO i1 i2)(st:De a b z TI TO i1 i2 i h)(ha:h.IsList a xs)(hb:h.IsList b ys):ZipApart z TI TO i1 i2 a b:=by
 obtain⟨s1,s2,⟨x,y,s3⟩,s4,s5⟩:=st;obtain⟨o4,e4,c4,_⟩:=s4;obtain⟨o5,e5,c5,_⟩:=s5;obtain⟨oa,ea,ca,_⟩:=ha;obtain⟨ob,eb,cb,_⟩:=hb;have d:∀{n m:String},n≠m->(Vv n)≠(Vv m):=fun q z=>q (by injection z);exact ⟨F.TIz,F.TOz,F.i1z,F.i2z,F.TITO,F.TIi1,F.TIi2,F.TOi1,F.TOi2,F.i12,
  f7 ea s1 (by rw[ca];exact d (by decide)),f7 ea s3 (by rw[ca];exact d (by decide)),f7 ea e4 (by rw[ca,c4];exact d (by decide)),f7 ea e5 (by rw[ca,c5];exact d (by decide)),
  f7 eb s1 (by rw[cb];exact d (by decide)),f7 eb s3 (by rw[cb];exact d (by decide)),f7 eb e4 (by rw[cb,c4];exact d (by decide)),f7 eb e5 (by rw[cb,c5];exact d (by decide))⟩
theorem Df{P:Program}{w:World}{K:Dp}{elts:List Expr}{x1}{tp:Pos}(a b z TI TO i1 i2:Addr)(F:sy z TI TO i1 i2):Turn P w K (.Tuple elts x1 tp) (Itz K a b) [z,TI,TO,i1,i2] z (De a b z TI TO i1 i2) where
 mem:=by simp
 obj:=fun i h st c hc=>by
  obtain⟨s1,s2,⟨x,y,s3⟩,⟨o4,e4,c4,d4⟩,⟨o5,e5,c5,d5⟩⟩:=st;simp only[S4,UQ,or_false]at hc;rcases hc with rfl | rfl | rfl | rfl | rfl
  ·exact⟨_,s1,fun v q=>by have q':Xy _=W8 v:=q;cases q'⟩
  ·exact⟨_,s2,fun v q=>by have q':Data.seq _ _=W8 v:=q;cases q'⟩
  ·exact⟨_,s3,fun v q=>by have q':Data.seq _ _=W8 v:=q;cases q'⟩
  ·exact⟨o4,e4,fun v q=>by rw[d4]at q;cases q⟩
  ·exact⟨o5,e5,fun v q=>by rw[d5]at q;cases q⟩
 keep:=fun i h h' st k=>by obtain⟨s1,s2,⟨x,y,s3⟩,s4,s5⟩:=st;exact⟨k z (by simp) _ s1,k TI (by simp) _ s2,⟨x,y,k TO (by simp) _ s3⟩,s4.at fun o q=>k i1 (by simp) o q,s5.at fun o q=>k i2 (by simp) o q⟩
 item:=by
  intro X hP hw hK hc i sV s σ H E I hf st hg;subst hP hw hK;obtain⟨xs,ys,x,y,hq,hq',hx,hy⟩:=hg;obtain⟨its,rv,p,hz⟩:=I.list hq;obtain⟨its',rv',p',hz'⟩:=I.list hq';obtain⟨u,hu,ru⟩:=rv.get hx;obtain⟨u',hu',ru'⟩:=rv'.get hy;have D:=uC F st p.isList p'.isList;obtain⟨s1,s2,⟨o1,o2,s3⟩,s4,s5⟩:=st;have lt:∀{c o},s.heap.get? c=some o->c<s.heap.objs.size:=fun q=>S9 q;have l1:=lt s1;have l2:=lt s2;have l3:=lt s3;have l4:i1<s.heap.objs.size:=by obtain⟨_,q,_⟩:=s4;exact lt q
  have l5:i2<s.heap.objs.size:=by obtain⟨_,q,_⟩:=s5;exact lt q
  refine wpAny_pyNext_zip_item D s1 s2 s3 s4 s5 p.isList p'.isList (x:=u) (y:=u') (by simpa using hu) (by simpa using hu') fun h1 a1 a2 a3 a4 a5 a6 hk=>?_;refine⟨_,rfl,wpAny_letOwnedTupleGo_zip a1 fun h2 z2 hs2=>?_⟩;have ht2:h2.get? s.heap.objs.size=some { cls:=.type "tuple",data:=.seq #[u,u'] }:=(hs2.2 _ (UC l1)).trans a5;have k2:∀c o,c∉[z,TI,TO,i1,i2]->s.heap.get? c=some o->h2.get? c=some o:=fun c o hc q=>by simp only[S4,UQ,or_false,not_or]at hc;exact(hs2.2 c hc.1).trans (hk c o hc.1 hc.2.2.1 hc.2.2.2.1 hc.2.2.2.2 q)
  have hn:H s.heap.objs.size=none:=I.hok.fresh (PU _);have I2:Inv X sV σ (upd H s.heap.objs.size (.tup [x,y])) { s with heap:=h2,toks:=s.toks }:=
   qJ I hf k2 (PU _) ⟨by simp[sizeLine],[u,u'],.cons ru (.cons ru' .nil),_,ht2,rfl,_,rfl⟩
  refine⟨.ref s.heap.objs.size,_,I2,rfl,⟨_,x,y,hn,rfl,rfl,fun vs hv=>by rw[I.fT hv hq];exact hx,fun vs hv=>by rw[I.fT hv hq'];exact hy⟩,⟨z2,?_,⟨_,_,hs2.extBut _ _ D.TOz a2⟩,?_,?_⟩,fun c hc=>?_⟩
  ·exact hs2.extBut _ _ D.TIz (hk TI _ D.TIz D.TITO D.TIi1 D.TIi2 s2)
  ·exact a3.extBut hs2.extBut D.i1z
  ·exact a4.extBut hs2.extBut D.i2z
  ·have hc1:c≠s.heap.objs.size:=fun q=>by
    simp only[S4,UQ,or_false]at hc;rcases hc with r | r | r | r | r
    ·subst r;rw[q]at l1;exact Uz _ l1
    ·subst r;rw[q]at l2;exact Uz _ l2
    ·subst r;rw[q]at l3;exact Uz _ l3
    ·subst r;rw[q]at l4;exact Uz _ l4
    ·subst r;rw[q]at l5;exact Uz _ l5
   rw[aj hc1];exact(hf c hc).1
 done:=by
  intro X hP hw hK hc i sV s σ H E I hf st hg;subst hP hw hK;obtain⟨xs,ys,hq,hq',hx⟩:=hg;obtain⟨its,rv,p,hz⟩:=I.list hq;obtain⟨its',rv',p',hz'⟩:=I.list hq';have hl:=rv.length;have hl':=rv'.length;have D:=uC F st p.isList p'.isList;obtain⟨s1,s2,⟨o1,o2,s3⟩,s4,s5⟩:=st;refine wpAny_pyNext_zip_end (I.ok.hd hc) D s1 s2 s3 s4 s5 p.isList p'.isList ?_ fun h' hk=>⟨rfl,gZ (t':=s.toks) I hf fun c o hc q=>?_⟩
  ·rcases hx with hx | hx
   ·exact .inl (by simp;lia)
   ·exact .inr (by simp;lia)
  ·simp only[S4,UQ,or_false,not_or]at hc;exact hk c o hc.1 hc.2.2.1 hc.2.2.2.1 hc.2.2.2.2 q
 self:=fun A i s Q E st h=>wpAny_pyIter_zip st.1 h
def JP(K:Dp)(ta:TA):TI:=fun σ H R=>ta σ H fun vs H1=>∃a b,vs=[.ref a,.ref b]/\(∃xs,SqL K H1 a xs)/\(∃ys,SqL K H1 b ys)/\R (Itz K a b) H1
section
variable{X:Cx}{l l':Expr}{ta:TA}{p pos:Pos}{elts:List Expr}{x1:Nat}{tp:Pos}
theorem Mp(hg:Gl X "zip")(hm:X.mg "zip" = none)(ha:PA X [l,l'] ta)(hs:starEach [l,l'] X.env=(false,eval l X.env)::starEach [l'] X.env:=by rfl)(hs2:(backTo pos (starEach [l'] X.env)).any (·.1)=false:=by rfl) :
  PI X (.Tuple elts x1 tp) (.Call (.Name "zip" p) [l,l'] [] pos) (JP X.K ta):=by
 intro sV s σ H R I h;refine Call_ (cW I hg hm boot_zip (Ub (thn (ha pos sV s σ H _ I h) fun us s1 ⟨vs,H1,I1,r1,q1⟩=>?_) hs hs2));obtain⟨a,b,e,⟨xs,hq⟩,⟨ys,hq'⟩,q⟩:=q1;subst e;obtain⟨v1,v2,rfl,r,r'⟩:=vals2 r1;cases r;cases r';obtain⟨its,rv,pl,hz⟩:=I1.list hq;obtain⟨its',rv',pl',hz'⟩:=I1.list hq';refine call_zip_2 pl.isList pl'.isList fun h' e1 e2 e3 e4 e5 hsz k=>?_;have I2:Inv X sV σ H1 { s1 with heap:=h' }:=I1.kept (t':=s1.toks) k;have F:sy (s1.heap.objs.size+4) (s1.heap.objs.size+2) (s1.heap.objs.size+3) s1.heap.objs.size (s1.heap.objs.size+1):=by constructor<;>first | exact Ti (by lia) | exact UC (by lia)
 have T:=Df (P:=X.prog) (w:=X.w) (K:=X.K) (elts:=elts) (x1:=x1) (tp:=tp) a b _ _ _ _ _ F;have st:De a b (s1.heap.objs.size+4) (s1.heap.objs.size+2) (s1.heap.objs.size+3) s1.heap.objs.size (s1.heap.objs.size+1) 0 h':=⟨e1,e2,⟨_,_,e3⟩,e4,e5⟩
 refine T.self X.A 0 { s1 with heap:=h' } _ X.xe st ?_;refine⟨s1.heap.objs.size+4,_,_,_,H1,rfl,I2,T,st,fun c hc=>?_,q⟩;have:s1.heap.objs.size<=c:=by simp only[S4,UQ,or_false]at hc;rcases hc with r | r | r | r | r<;>(rw[r];first | exact Wh _ _ | exact PU _)
 exact I1.xm this (I1.hok.fresh this)
end
theorem zq:∀(xs ys:List Dat),(Dm.gR xs ys).length=min xs.length ys.length
 |[],_=>by simp[Dm.gR]
 |_::_,[]=>by simp[Dm.gR]
 |x::xs,y::ys=>by simp[Dm.gR,zq xs ys]
theorem zip_get:∀(xs ys:List Dat) (j:Nat) (d:Dat),(Dm.gR xs ys)[j]?=some d->∃x y,xs[j]?=some x/\ys[j]?=some y/\d=.tup [x,y]
 |[],_,_,_,h=>by simp[Dm.gR]at h
 |_::_,[],_,_,h=>by simp[Dm.gR]at h
 |x::xs,y::ys,0,d,h=>by cases h;exact⟨x,y,rfl,rfl,rfl⟩
 |x::xs,y::ys,j+1,d,h=>zip_get xs ys j d h
theorem Mq{K:Dp}{H0:Hp}{a b:Addr}{xs ys:List V}{ds es:List Dat}(hq:Rd H0 a (.lst xs))(rs:aD H0 xs ds)(hq':Rd H0 b (.lst ys))(rs':aD H0 ys es):JW (Itz K a b) H0 (Dm.gR ds es):=by
 intro H0' H s0 s1;have q:SqL K H a xs:=.inl (au.rd s1 (au.rd s0 hq));have q':SqL K H b ys:=.inl (au.rd s1 (au.rd s0 hq'));refine⟨fun i hi=>⟨xs,ys,q,q',?_⟩,fun i d e=>?_⟩
 ·rw[zq]at hi;have:=rs.length;have:=rs'.length
  lia
 obtain⟨x,y,hx,hy,rfl⟩:=zip_get ds es i d e;obtain⟨v,hv,rv⟩:=rs.get hx;obtain⟨v',hv',rv'⟩:=rs'.get hy;refine⟨⟨xs,ys,v,v',q,q',hv,hv'⟩,fun r H' z=>?_⟩;obtain⟨p,u,u',hn,rfl,rfl,z1,z2⟩:=z;have w1:=z1 xs q;have w2:=z2 ys q';rw[hv]at w1;rw[hv']at w2;cases w1;cases w2;have g:=aQ.CF (o:=HO.tup [v,v']) s1 hn;exact⟨_,g,.tup aq (.cons ((rv.mono s0).mono g.s0) (.cons ((rv'.mono s0).mono g.s0) .nil))⟩
section
variable{σ:L2.St}{H:Hp}{R:It->Hp->Prop}
theorem Mr{K:Dp}{f g:FE}(h:tDI (Dm.HD f g) σ H R):JP K (tDA [f,g]) σ H R:=by
 obtain⟨H0,ρ,ys,ρ',st,e,k⟩:=h;unfold Dm.HD at e;split at e
 ·rename_i vs ρ1 e1;split at e
  ·rename_i xs zs ρ2 e2;cases e;refine⟨H0,ρ,vs,ρ1,st,e1,fun us H0' H' t r=>?_⟩;obtain⟨H1,t1,b1,r1⟩:=takes t (au.refl _) r e2;cases r1 with
   |cons q1 rr=>
    cases rr with
    |cons q2 rr=>
     cases rr;cases q1 with
     |lst q rs=>
      cases q2 with
      |lst q' rs'=>exact⟨_,_,rfl,⟨_,.inl (au.rd t1.st.same q)⟩,⟨_,.inl (au.rd t1.st.same q')⟩,k _ H1 H' t1 (Mq q rs q' rs')⟩
  ·cases e
 ·cases e
end
theorem Ms:OpD (rI GO fun i j=>.int (i*2 ^ j.toNat)) Dm.Ba:=by
 intro H0 H x y dx dy z Q s rx ry e k;unfold Dm.Ba at e;split at e
 ·split at e
  ·rename_i hb;cases e;cases aA rx;cases aA ry;exact⟨_,_,rfl,rfl,⟨by lia,by lia,by lia⟩,k _ H0 H (aQ.refl s) (.int _)⟩
  ·cases e
 ·cases e
section
variable{X:Cx}{a b:Expr}{fa fb:FE}{p pos:Pos}{elts:List Expr}{x1:Nat}{tp:Pos}
theorem PM(hg:Gl X "zip")(hm:X.mg "zip" = none)(ha:DA X [a,b] [fa,fb])(hs:starEach [a,b] X.env=(false,eval a X.env)::starEach [b] X.env:=by rfl)(hs2:(backTo pos (starEach [b] X.env)).any (·.1)=false:=by rfl) :
  DI X (.Tuple elts x1 tp) (.Call (.Name "zip" p) [a,b] [] pos) (Dm.HD fa fb):=PI.weak (Mp hg hm ha hs hs2) fun _ _ _=>Mr
theorem PN(ha:DE X a fa)(hb:DE X b fb):DE X (.BinOp a .LShift b pos) (Dm.e2 Dm.Ba fa fb):=p_ Lx Ms ha hb
end
end Br
namespace Dm
noncomputable def fnM(n m:Nat)(body:FS)(ds:List Dat):Option (RV×Dat):=if ds.length=n then (match ds with
 | d::r=>(match body (Cell.ow d::(r.map Cell.sh++S5 m .un)) with
  | some (.ret z ρ')=>(match ρ'[0]? with
   |some (Cell.ow d')=>some (z,d')
   |_=>none)
  | some (.nx ρ')=>(match ρ'[0]? with
   |some (Cell.ow d')=>some (.val .non,d')
   |_=>none)
  |_=>none)
 |[]=>none) else none
noncomputable def flat:Dat->Bool
 |.tup xs=>xs.all fun x=>!dN x
 |d=>!dN d
noncomputable def xO:Dat->Bool
 |.lst xs=>xs.all fun x=>!dN x
 |_=>false
noncomputable def eFm(f:List Dat->Option (RV×Dat))(j:Nat)(as:List FE):FE:=fun ρ=>match ρ[j]? with
 | some (.ow _)=>(match eAs as ρ with
  |none=>none
  | some (xs,ρ1)=>(match ρ1[j]? with
   | some (.ow d1)=>(match tks ρ1 xs with
    |none=>none
    | some (ds,ρ2)=>(match ρ2[j]? with
     | some (.ow d)=>(match f (d::ds) with
      |none=>none
      |some (v,d')=>if flat v.dat&&xO d' then some (v.bG,ρ1.set j (.ow d')) else some (v.bG,ρ2.set j (.ow d')))
     |_=>none))
   |_=>none))
 |_=>none
end Dm
namespace Br
open PySem PySem.Spec PyProof.Rows L2
section
variable{ρ:Dm.Env}{σ:L2.St}{a:Addr}
def spM(f:List Dat->Option (RV×Dat)):Sp:=fun vs H Q _=>∃H0 a us d ds z d',vs=V.ref a::us/\au H0 H/\H0 a=none/\Own H0 H a d/\aD H0 us ds/\f (d::ds)=some (z,d') /\
 ∀v H0' H',Stp (fun b=>b=a) H0 H H0' H'->au H0' H'->H0' a=none->Own H0' H' a d'->sd H H0' H' v z->Q v H'
theorem jL{n m:Nat}{body:FS}{vs:List V}{H:Hp}{Q:VK}{E:XK}(h:spM (Dm.fnM n m body) vs H Q E):vs.length=n:=by
 obtain⟨H0,a,us,d,ds,z,d',e,_,_,_,rs,ef,_⟩:=h;unfold Dm.fnM at ef;split at ef
 ·rename_i hl;rw[e,TV,rs.length]
  simpa using hl
 ·cases ef
theorem aE.ko{H0 H:Hp}{j:Nat}{d:Dat}(st:aE H0 H σ ρ)(q:σ[j]?=some (some (V.ref a)))(no:¬ao σ ρ a)(n0:H0 a=none)(w:Own H0 H a d):aE H0 H σ (ρ.set j (.ow d)):=by
 have:=st.CH (i:=j) no n0 w;have e:σ.set j (some (V.ref a))=σ:=by
  apply VC;intro i;by_cases h:j=i
  ·subst h;have hl:j<σ.length:=(S7.mp q).1;rw[TN hl,q]
  ·rw[HT h]
 rw[e]at this;exact this
theorem aE.off{H0 H H0' H':Hp}(st:aE H0 H σ ρ)(s0:au H0 H0')(ss:au H0' H')(no:¬ao σ ρ a)(s1:∀b o,H b=some o->b≠a->H' b=some o)(s2:∀(i:Nat) (d:Dat) (b:Addr),ρ[i]?=some (Dm.Cell.ow d)->σ[i]?=some (some (V.ref b))->H0' b=none):aE H0' H' σ ρ where
 same:=ss
 len:=st.len
 sh:=fun i d e=>by obtain⟨v,q,r⟩:=st.sh i d e;exact⟨v,q,r.mono s0⟩
 ow:=fun i d e=>by obtain⟨b,q,n,w⟩:=st.ow i d e;obtain⟨o,z⟩:=w.some;have nb:b≠a:=fun y=>no ⟨i,d,e,y▸q⟩;exact⟨b,q,s2 i d b e q,w.mono s0 ((s1 b o z nb).trans z.symm)⟩
 dis:=st.dis
theorem fu{H0 H1:Hp}:∀{xs:List V} {ds:List Dat},aD H0 xs ds->(ds.all fun x=>!Dm.dN x)=true->aD H1 xs ds
 |_,_,.nil,_=>.nil
 |_,_,.cons r rs,h=>by rw[WQ,TY]at h;exact .cons (Rep.plain r (by simpa using h.1)) (fu rs h.2)
end
section
variable{σ:L2.St}{H:Hp}{Q:VK}
theorem HE{f:List Dat->Option (RV×Dat)}{j:Nat}{fs:List FE}{E:XK}(h:tD (Dm.eFm f j fs) σ H Q):mJ (spM f) [] E (tDA (Dm.eV j::fs)) σ H Q:=by
 obtain⟨H0,ρ,x,ρ',st,e,k⟩:=h;unfold Dm.eFm at e;split at e
 case h_2=>cases e
 rename_i d0 h0;split at e
 ·cases e
 rename_i xs ρ1 e1;split at e
 case h_2=>cases e
 rename_i d1 h1;split at e
 ·cases e
 rename_i ds ρ2 e2;split at e
 case h_2=>cases e
 rename_i d h2;split at e
 ·cases e
 rename_i z d' fz;have ea:Dm.eAs (Dm.eV j::fs) ρ=some (.slot j::xs,ρ1):=by unfold Dm.eAs;rw[show Dm.eV j ρ=some (.slot j,ρ) from by unfold Dm.eV;rw[h0]];dsimp only;rw[e1]
 refine⟨H0,ρ,.slot j::xs,ρ1,st,ea,fun vs H1 Hb t1 r1=>?_⟩;dsimp only;rw[Uu];cases r1 with
 |cons r0 rr=>
  obtain⟨H2,t2,b2,r2⟩:=takes t1 (au.refl _) rr e2;obtain⟨a,qa,na,wa⟩:=t2.st.ow j d h2;obtain⟨q0,_⟩:=r0;rw[qa]at q0;cases q0;obtain⟨a1,qa1,na1,wa1⟩:=t1.st.ow j d1 h1;rw[qa]at qa1;cases qa1;obtain⟨oa,ha⟩:=wa.some;have hl2:j<ρ2.length:=(S7.mp h2).1;have hl1:j<ρ1.length:=(S7.mp h1).1;have oa0:ao σ ρ a:=t1.own a ⟨j,d1,h1,qa⟩;refine⟨H2,a,_,d,ds,z,d',rfl,t2.st.same,na,wa,r2,fz,fun v H3 Hd s3 ss n3 w3 r3=>?_⟩;have no2:¬ao σ (ρ2.set j .un) a:=fun y=>by obtain⟨i,d4,hi,y1,y2⟩:=cH y;exact hi (t2.st.dis i j d4 d a y1 h2 y2 qa)
  have no1:¬ao σ (ρ1.set j .un) a:=fun y=>by obtain⟨i,d4,hi,y1,y2⟩:=cH y;exact hi (t1.st.dis i j d4 d1 a y1 h1 y2 qa)
  split at e
  ·rename_i fl;cases e;rw[TY]at fl;obtain⟨f1,f2⟩:=fl;have wp:∀H',Own H' Hd a d':=fun H'=>by
    cases d' with
    |lst ys=>obtain⟨us,y1,y2⟩:=w3;exact⟨us,y1,fu y2 f2⟩
    |_=>cases f2
   have Fp:∀H1':Hp,au H1 H1'->au H1' Hd->(∀b o,H1' b=some o->H1 b=some o\/((∃us,o=.tup us)/\H3 b=some o))->fV H H1' Hd σ (ρ1.set j (.ow d')) v z.bG->Q v Hd:=fun H1' m1 m2 m3 rv=>by
    have hd3:∀b,H1' b≠none->b≠a:=fun b hb y=>by
     subst y;cases y2:H1' b with
     |none=>exact hb y2
     |some o=>
      rcases m3 b o y2 with y3 | ⟨_,y3⟩
      ·rw[na1]at y3;cases y3
      ·rw[n3]at y3;cases y3
    have n1':H1' a=none:=by
     cases y:H1' a with
     |none=>rfl
     |some o=>exact absurd rfl (hd3 a (by rw[y];exact fun q=>nomatch q))
    have sm:aE H1' Hd σ (ρ1.set j .un):=by
     refine(t1.st.mask j).off m1 m2 no1 (fun b o y nb=>s3.s1 b o y nb) fun i d4 b y1 y2=>?_;obtain⟨b',q',nb',w'⟩:=(t1.st.mask j).ow i d4 y1;rw[y2]at q';cases q';cases y:H1' b with
     |none=>rfl
     |some o=>
      rcases m3 b o y with y3 | ⟨⟨us,y4⟩,y3⟩
      ·rw[nb']at y3;cases y3
      ·subst y4;have nb:b≠a:=hd3 b (by rw[y];exact fun q=>nomatch q);cases d4 with
       |lst _=>obtain⟨ws,z1,_⟩:=w';have z2:=s3.s1 b _ z1 nb;rw[ss _ _ y3]at z2;cases z2
       |dct _ _=>obtain⟨ws,z1,_⟩:=w';have z2:=s3.s1 b _ z1 nb;rw[ss _ _ y3]at z2;cases z2
       |_=>exact T8 w'
    have sf:aE H1' Hd σ (ρ1.set j (.ow d')):=by have:=sm.ko qa no1 n1' (wp H1');rw[Xu]at this;exact this
    refine k v H1' Hd ⟨sf,⟨t1.stp.s0.trans m1,fun b o y nb=>?_,fun b o y=>?_,fun b o y=>?_⟩,fun b y=>?_,fun i y=>?_⟩ rv
    ·have y1:=t1.stp.s1 b o y nb;exact s3.s1 b o y1 fun q=>nb (by rw[q];exact oa0)
    ·rcases m3 b o y with y3 | ⟨_,y3⟩
     ·exact t1.stp.s2 b o y3
     ·rcases s3.s2 b o y3 with y4 | y4 | y4
      ·exact .inl (t1.stp.gone y4)
      ·exact t2.stp.s2 b o y4
      ·subst y4;rw[n3]at y3;cases y3
    ·obtain⟨o',y1⟩:=t1.stp.s3 b o y;exact s3.s3 b o' y1
    ·obtain⟨i,d4,y1,y2⟩:=y;by_cases hi:j=i
     ·subst hi;rw[qa]at y2;cases y2;exact oa0
     ·rw[HT hi]at y1;exact t1.own b ⟨i,d4,y1,y2⟩
    ·trivial
   have m0:au H1 Hd:=fun b o y=>s3.s1 b o (t1.st.same _ _ y) fun q=>by rw[q,na1]at y;cases y
   cases z with
   |new d4=>
    obtain⟨_,_,_,_,w⟩:=r3;cases d4 with
    |lst _=>cases f1
    |dct _ _=>cases f1
    |_=>exact T8 w
   |val d4=>
    have r3':Rep H3 v d4:=r3;cases d4 with
    |tup es=>
     cases r3' with
     |tup q rs=>
      rename_i a2 us;have rp:aD H1 us es:=fu rs f1;refine Fp (upd H1 a2 (.tup us)) (fun b o y=>?_) (fun b o y=>?_) (fun b o y=>?_) (.tup aq (fu rs f1))
      ·by_cases hb:b=a2
       ·subst hb;have:=s3.s0 _ _ (b2 _ _ y);rw[q]at this;rw[aq,this]
       ·rw[aj hb];exact y
      ·by_cases hb:b=a2
       ·subst hb;rw[aq]at y;cases y;exact ss _ _ q
       ·rw[aj hb]at y;exact m0 _ _ y
      ·by_cases hb:b=a2
       ·subst hb;rw[aq]at y;cases y;exact .inr ⟨⟨us,rfl⟩,q⟩
       ·rw[aj hb]at y;exact .inl y
    |lst _=>cases f1
    |dct _ _=>cases f1
    |exc _=>cases f1
    |fn _=>exact Fp H1 (au.refl _) m0 (fun b o y=>.inl y) (Rep.plain r3' rfl)
    |non=>exact Fp H1 (au.refl _) m0 (fun b o y=>.inl y) (Rep.plain r3' rfl)
    |bl _=>exact Fp H1 (au.refl _) m0 (fun b o y=>.inl y) (Rep.plain r3' rfl)
    |int _=>exact Fp H1 (au.refl _) m0 (fun b o y=>.inl y) (Rep.plain r3' rfl)
    |str _=>exact Fp H1 (au.refl _) m0 (fun b o y=>.inl y) (Rep.plain r3' rfl)
  ·cases e;have sm:aE H3 Hd σ (ρ2.set j .un):=by
    refine(t2.st.mask j).off s3.s0 ss no2 (fun b o y nb=>s3.s1 b o y nb) fun i d4 b y1 y2=>?_;obtain⟨b',q',nb',w'⟩:=(t2.st.mask j).ow i d4 y1;rw[y2]at q';cases q';obtain⟨ob,hob⟩:=w'.some;cases y:H3 b with
    |none=>rfl
    |some o=>
     rcases s3.s2 b o y with y3 | y3 | y3
     ·rw[hob]at y3;cases y3
     ·rw[nb']at y3;cases y3
     ·exact absurd ⟨i,d4,y1,y3▸y2⟩ no2
   have sf:aE H3 Hd σ (ρ2.set j (.ow d')):=by have:=sm.ko qa no2 n3 w3;rw[Xu]at this;exact this
   have of:∀b,ao σ (ρ2.set j (.ow d')) b->b=a\/ao σ ρ2 b:=fun b ⟨i,d4,y1,y2⟩=>by
    by_cases hi:j=i
    ·subst hi;rw[qa]at y2;cases y2;exact .inl rfl
    ·rw[HT hi]at y1;exact .inr ⟨i,d4,y1,y2⟩
   refine k v H3 Hd ⟨sf,t2.stp.trans s3 (fun b y=>.inl (y▸oa0)),fun b y=>?_,fun i y=>?_⟩ ?_
   ·rcases of b y with y | y
    ·exact y▸oa0
    ·exact t2.own b y
   ·trivial
   ·cases z with
    |val d4=>exact r3
    |new d4=>
     obtain⟨b,y0,y1,y2,y3⟩:=r3;refine⟨b,y0,t2.stp.gone y1,fun y=>?_,y2,y3⟩;rcases of b y with y | y
     ·subst y;rw[ha]at y1;cases y1
     ·exact t2.st.b7 y1 y
end
theorem bz{X:Cx}{es:List Expr}{p pos px:Pos}{k:Nat}{F:Addr}{fd:FuncData}{ps:List Str}{g:List Dat->Option (RV×Dat)}{x y:Str}{j:Nat}{fs:List FE}(G:aR X.prog X.w X.K X.mg X.base CX0 k F fd ps (spM g))(hr:aX k X.A)(hg:Gl X x)(hm:X.mg x=some (.ref F))(hk:Ut X.K (.ref F)=true)(hb:Binds X.K fd ps [])
  (ha:DA X (.Name y px::es) (Dm.eV j::fs)) (Qu:(x == ("__debug__" : Str))=false:=by decide) (he:starEach (.Name y px::es) X.env=(false,eval (.Name y px) X.env)::starEach es X.env:=by rfl) (Fd:(backTo pos (starEach es X.env)).any (·.1)=false:=by rfl) :
  DE X (.Call (.Name x p) (.Name y px::es) [] pos) (Dm.eFm g j fs):=PE.weak (l7 G hr hg hm hk hb .nil (ua (X:=X)) ha Qu he Fd) fun _ _ _=>HE
theorem zu{N:List Str}{n m:Nat}{body:FS}{vs:List V}{H:Hp}{Q:VK}{E:XK}(hm:N.length=n+m)(h:spM (Dm.fnM n m body) vs H Q E) :
  tDS body { nx:=fun _ H'=>Q .non H',rt:=Q } (start N vs) H:=by
 have hvn:=jL h;obtain⟨H0,a,us,d,ds,z,d',e,s,na,wa,rs,ef,k⟩:=h;subst e;have hl:=rs.length;rw[TV]at hvn;have e0:(start N (V.ref a::us))[0]?=some (some (V.ref a)):=rfl;have get:∀{i:Nat} {c:Dm.Cell},(Dm.Cell.ow d::(ds.map Dm.Cell.sh++S5 m .un))[i]?=some c->(i=0/\c=.ow d)\/(∃i' d4,i=i'+1/\ds[i']?=some d4/\c=.sh d4)\/c=.un:=fun {i c} y=>by
  cases i with
  |zero=>cases y;exact .inl ⟨rfl,rfl⟩
  |succ i=>
   rw[V3]at y;by_cases hi:i<ds.length
   ·rw[Tn (by simpa using hi),TJ,Tf hi]at y;cases y;exact .inr (.inl ⟨i,ds[i],rfl,Tf hi,rfl⟩)
   ·rw[TZ (by simpa using hi),Uq]at y;split at y
    ·cases y;exact .inr (.inr rfl)
    ·cases y
 have ow0:∀{i:Nat} {d4:Dat},(Dm.Cell.ow d::(ds.map Dm.Cell.sh++S5 m .un))[i]?=some (.ow d4)->i=0/\d4=d:=fun {i d4} y=>by
  rcases get y with⟨y1,y2⟩ | ⟨_,_,_,_,y2⟩ | y2
  ·cases y2;exact⟨y1,rfl⟩
  ·cases y2
  ·cases y2
 have oa:∀b,ao (start N (V.ref a::us)) (Dm.Cell.ow d::(ds.map Dm.Cell.sh++S5 m .un)) b->b=a:=fun b ⟨i,d4,y1,y2⟩=>by obtain⟨y3,_⟩:=ow0 y1;subst y3;rw[e0]at y2;cases y2;rfl
 have st:aE H0 H (start N (V.ref a::us)) (Dm.Cell.ow d::(ds.map Dm.Cell.sh++S5 m .un)):=by
  refine⟨s,?_,fun i d4 y=>?_,fun i d4 y=>?_,fun i i' d4 d5 b y1 y2 _ _=>(ow0 y1).1.trans (ow0 y2).1.symm⟩
  ·unfold L2.start;simp only[Tg,Dk,VE,TV];omega
  ·rcases get y with⟨_,y2⟩ | ⟨i',d5,y1,y2,y3⟩ | y2
   ·cases y2
   ·cases y3;subst y1;obtain⟨v,hv,r⟩:=rs.get y2;refine⟨v,?_,r⟩;have hi:i'<us.length:=(S7.mp hv).1;unfold L2.start;rw[Tn (by simp;omega),TJ,V3,hv];rfl
   ·cases y2
  ·obtain⟨y1,y2⟩:=ow0 y;subst y1 y2;exact⟨a,e0,na,wa⟩
 have Fp:∀{σ':L2.St} {ρ':Dm.Env} {H0' H':Hp},SSt (start N (V.ref a::us)) (Dm.Cell.ow d::(ds.map Dm.Cell.sh++S5 m .un)) H0 H σ' ρ' H0' H'->ρ'[0]?=some (.ow d')->Stp (fun b=>b=a) H0 H H0' H'/\H0' a=none/\Own H0' H' a d'/\ao σ' ρ' a:=fun {σ' ρ' H0' H'} t y=>by obtain⟨a',q',n',w'⟩:=t.st.ow 0 d' y;have fx:=t.fx;rw[e0,q']at fx;cases fx;exact⟨t.stp.wide fun b z=>oa b z,n',w',0,d',y,q'⟩
 unfold Dm.fnM at ef;split at ef
 case isFalse=>cases ef
 dsimp only at ef;split at ef
 ·rename_i z' ρ' e1;split at ef
  case h_2=>cases ef
  rename_i d4 y;cases ef;refine⟨H0,_,_,st,e1,fun σ' v H0' H' t r no=>?_⟩;obtain⟨f1,f2,f3,f4⟩:=Fp t y;refine k v H0' H' f1 t.st.same f2 f3 ?_;cases z with
  |val d5=>exact r
  |new d5=>
   obtain⟨b,y0,y1,y2,y3⟩:=r;refine⟨b,y0,?_,y2,y3⟩;rcases y1 with y1 | y1
   ·exact y1
   ·exact absurd f4 (oa b y1▸no d5 b rfl y0)
 ·rename_i ρ' e1;split at ef
  case h_2=>cases ef
  rename_i d4 y;cases ef;refine⟨H0,_,_,st,e1,fun σ' H0' H' t=>?_⟩;obtain⟨f1,f2,f3,f4⟩:=Fp t y;exact k _ H0' H' f1 t.st.same f2 f3 .non
 ·cases ef
end Br
namespace Dm
noncomputable def bH:List Int->List Dat->Int->Option Dat
 |k::ks,v::vs,i=>if k=i then some v else bH ks vs i
 |_,_,_=>none
noncomputable def zv:List Int->List Dat->Int->Dat->List Dat
 |k::ks,v::vs,i,d=>(if k=i then d else v)::zv ks vs i d
 |_,_,_,_=>[]
noncomputable def kY(ks:List Int)(i:Int):List Int:=if (ks.any fun k=>decide (k=i))=true then ks else ks++[i]
noncomputable def kZ(ks:List Int)(vs:List Dat)(i:Int)(d:Dat):List Dat:=if (ks.any fun k=>decide (k=i))=true then zv ks vs i d else vs++[d]
noncomputable def eDn:FE:=fun ρ=>some (.new (.dct [] []),ρ)
noncomputable def gDx:Dat->Dat->Option RV
 |.dct ks vs,.int i=>(bH ks vs i).map .val
 |_,_=>none
noncomputable def Bb:Dat->Dat->Option RV
 |.int i,.dct ks vs=>vB (bH ks vs i).isSome
 |_,_=>none
noncomputable def uD:Dat->Dat->Option RV
 |.int i,.dct ks vs=>vB (!(bH ks vs i).isSome)
 |_,_=>none
noncomputable def k7(a b:FE):FE:=fun ρ=>match a ρ with
 |none=>none
 |some (x,ρ1)=>match pk ρ1 x with
  | some (.dct _ _)=>(match b ρ1 with
   |none=>none
   |some (y,ρ2)=>match pk ρ2 x with
    | some (.dct ks vs)=>(match pk ρ2 y with
     |some (.int i)=>some (.val ((bH ks vs i).getD .non),ρ2)
     |_=>none)
    |_=>none)
  |_=>none
noncomputable def eD1(a b:FE):FE:=fun ρ=>match a ρ with
 | some (.val (.int i),ρ1)=>(match b ρ1 with
  |none=>none
  |some (x,ρ2)=>match tk ρ2 x with
   |none=>none
   |some (d,ρ3)=>some (.new (.dct [i] [d]),ρ3))
 |_=>none
noncomputable def m6(i:Nat)(j e:FE):FS:=fun ρ=>match e ρ with
 |none=>none
 |some (x,ρ1)=>match tk ρ1 x with
  |none=>none
  |some (d,ρ2)=>match ρ2[i]? with
   | some (.ow _)=>(match j ρ2 with
    | some (.val (.int k),ρ3)=>(match ρ3[i]? with
     |some (.ow (.dct ks vs))=>if ks.length<SZ then some (.nx (ρ3.set i (.ow (.dct (kY ks k) (kZ ks vs k d))))) else none
     |_=>none)
    |_=>none)
   |_=>none
end Dm
namespace Br
open PySem PySem.Spec PyProof.Rows L2
section
variable{ds:List Dat}{ks:List Int}{H0:Hp}{d:Dat}{v:V}
theorem dQ{H0 H:Hp}(s:au H0 H)(r:j_ H0 H v (.dct ks ds)):∃a kvs,v=.ref a/\H a=some (.dK kvs)/\kvs.map (·.1)=ks.map TU/\aD H0 (kvs.map (·.2)) ds:=by
 rcases r with r | ⟨a,e,kvs,q,ek,rs⟩
 ·cases r with
  |dct q ek rs=>exact⟨_,_,rfl,s _ _ q,ek,rs⟩
 ·exact⟨a,kvs,e,q,ek,rs⟩
theorem sC{a b:Int}(h:¬a=b):¬(TU a:Key)=TU b:=fun q=>h (TU.inj q)
theorem gH(i:Int):∀{kvs:List (Key×V)} {ks:List Int} {ds:List Dat},kvs.map (·.1)=ks.map TU->aD H0 (kvs.map (·.2)) ds ->
  (∃d v,Dm.bH ks ds i=some d/\gX kvs (TU i)=some v/\Rep H0 v d)\/(Dm.bH ks ds i=none/\gX kvs (TU i)=none)
 |[],[],_,_,r=>by cases r;exact .inr ⟨rfl,rfl⟩
 |[],_::_,_,e,_=>by cases e
 |_::_,[],_,e,_=>by cases e
 |(k0,v0)::kvs,k::ks,_,e,r=>by
  rw[eg]at r;cases r with
  |cons r0 rr=>
   rw[eg,eg]at e;injection e with e1 e2
   have e1:k0=TU k:=e1;subst e1;unfold Dm.bH;by_cases h:k=i
   ·subst h;rw[if_pos rfl];exact .inl ⟨_,v0,rfl,jv rfl,r0⟩
   ·rw[if_neg h,jx (sC h)];exact gH i e2 rr
theorem Dg(i:Int):∀{kvs:List (Key×V)} {ks:List Int},kvs.map (·.1)=ks.map TU->(kvs.any fun kv=>decide (kv.1=TU i))=(ks.any fun k=>decide (k=i))
 |[],[],_=>rfl
 |[],_::_,e=>by cases e
 |_::_,[],e=>by cases e
 |(k0,v0)::kvs,k::ks,e=>by
  rw[eg,eg]at e;injection e with e1 e2
  have e1:k0=TU k:=e1;subst e1;rw[U4,U4,Dg i e2]
  congr 1
  by_cases h:k=i
  ·subst h;simp
  ·have:=sC h;simp[h,this]
theorem zw(i:Int)(rv:Rep H0 v d):∀{kvs:List (Key×V)} {ks:List Int} {ds:List Dat},kvs.map (·.1)=ks.map TU->aD H0 (kvs.map (·.2)) ds ->
  ((kvs.map fun kv=>if kv.1=TU i then (kv.1,v) else kv).map (·.1)=ks.map TU)/\aD H0 ((kvs.map fun kv=>if kv.1=TU i then (kv.1,v) else kv).map (·.2)) (Dm.zv ks ds i d)
 |[],[],_,_,r=>by cases r;exact⟨rfl,.nil⟩
 |[],_::_,_,e,_=>by cases e
 |_::_,[],_,e,_=>by cases e
 |(k0,v0)::kvs,k::ks,_,e,r=>by
  rw[eg]at r;cases r with
  |cons r0 rr=>
   rw[eg,eg]at e;injection e with e1 e2
   have e1:k0=TU k:=e1;subst e1;obtain⟨i1,i2⟩:=zw i rv e2 rr;unfold Dm.zv;by_cases h:k=i
   ·subst h;rw[if_pos rfl,eg,eg,eg,i1];simp only[if_true];exact⟨trivial,.cons rv i2⟩
   ·rw[if_neg h,eg,eg,eg,i1];have:=sC h;simp only[this,if_false];exact⟨trivial,.cons r0 i2⟩
theorem m7(i:Int)(rv:Rep H0 v d){kvs:List (Key×V)}(e:kvs.map (·.1)=ks.map TU)(r:aD H0 (kvs.map (·.2)) ds) :
  (putK kvs (TU i) v).map (·.1)=(Dm.kY ks i).map TU/\aD H0 ((putK kvs (TU i) v).map (·.2)) (Dm.kZ ks ds i d):=by
 have ha:=Dg i e;unfold putK Dm.kY Dm.kZ;rw[ha];cases hb:(ks.any fun k=>decide (k=i)) with
 |true=>simp only[if_true];exact zw i rv e r
 |false=>simp only[Tc,if_false];rw[Tv,Tv,Tv,e];exact⟨rfl,r.append (.cons rv .nil)⟩
theorem PO:OpD (fun x y H Q=>∃a v,x=.ref a/\fR H a y (some v)/\Q v H) Dm.gDx:=by
 intro H0 H x y dx dy z Q s rx ry e k;unfold Dm.gDx at e;split at e
 ·rename_i ks vs i;cases aA ry;obtain⟨a,kvs,rfl,qa,ek,rs⟩:=dQ s rx;rcases gH i ek rs with⟨d,v,l1,l2,r⟩ | ⟨l1,_⟩
  ·rw[l1]at e;cases e;refine⟨a,v,rfl,?_,k _ H0 H (aQ.refl s) r⟩;have:=fR.k (k:=TU i) qa;rw[l2]at this;exact this
  ·rw[l1]at e;cases e
 ·cases e
theorem Mt:OpD (fun y x H Q=>∃a o,x=.ref a/\fR H a y o/\Q (.bl o.isSome) H) Dm.Bb:=by
 intro H0 H x y dx dy z Q s rx ry e k;unfold Dm.Bb at e;split at e
 ·rename_i i ks vs;cases e;cases aA rx;obtain⟨a,kvs,rfl,qa,ek,rs⟩:=dQ s ry;refine⟨a,_,rfl,fR.k (k:=TU i) qa,k _ H0 H (aQ.refl s) ?_⟩;rcases gH i ek rs with⟨d,v,l1,l2,r⟩ | ⟨l1,l2⟩
  ·rw[l1,l2];exact .bl _
  ·rw[l1,l2];exact .bl _
 ·cases e
theorem HF:OpD (fun y x H Q=>∃a o,x=.ref a/\fR H a y o/\Q (.bl (!o.isSome)) H) Dm.uD:=by
 intro H0 H x y dx dy z Q s rx ry e k;unfold Dm.uD at e;split at e
 ·rename_i i ks vs;cases e;cases aA rx;obtain⟨a,kvs,rfl,qa,ek,rs⟩:=dQ s ry;refine⟨a,_,rfl,fR.k (k:=TU i) qa,k _ H0 H (aQ.refl s) ?_⟩;rcases gH i ek rs with⟨d,v,l1,l2,r⟩ | ⟨l1,l2⟩
  ·rw[l1,l2];exact .bl _
  ·rw[l1,l2];exact .bl _
 ·cases e
end
section
variable{σ:L2.St}{H:Hp}{Q:VK}{D:Ends}
theorem R0(h:tD Dm.eDn σ H Q):Ct σ H Q:=by obtain⟨H0,ρ,x,ρ',st,e,k⟩:=h;cases e;intro p hp;have g:=aQ.lQ (o:=HO.dK []) st.same hp;exact k _ _ _ (.grow st g) ⟨p,rfl,hp,st.b7 hp,st.same.free hp,[],aq,rfl,.nil⟩
theorem Mu{fo fi:FE}(h:tD (Dm.k7 fo fi) σ H Q):Cy (tD fo) (tD fi) σ H Q:=by
 obtain⟨H0,ρ,x,ρ',st,e,k⟩:=h;unfold Dm.k7 at e;split at e
 ·cases e
 rename_i x1 ρ1 e1;split at e
 case h_2=>cases e
 rename_i ks0 vs0 p0;split at e
 ·cases e
 rename_i y1 ρ2 e2;split at e
 case h_2=>cases e
 rename_i ks vs p1;split at e
 case h_2=>cases e
 rename_i i p2;cases e;refine⟨H0,ρ,x1,ρ1,st,e1,fun v H1 Hb t1 r1=>?_⟩;obtain⟨a,Mv,rfl,qa0,_,_⟩:=dQ t1.st.same (r1.look t1.st p0);refine⟨a,rfl,.inl ⟨Mv,.inl qa0⟩,H1,ρ1,y1,_,t1.st,e2,fun u H2 Hc t2 r2=>?_⟩;have hu:=aA (r2.look t2.st p2);subst hu;obtain⟨a',kvs,ea,qa,ek,rs⟩:=dQ t2.st.same ((r1.mono t2).look t2.st p1);cases ea;refine⟨_,fR.k (k:=TU i) qa,k _ H2 Hc (t1.trans t2) ?_⟩;rcases gH i ek rs with⟨d,w,l1,l2,r⟩ | ⟨l1,l2⟩
 ·rw[l1,l2];exact r
 ·rw[l1,l2];exact Rep.non
theorem Mw{i:Nat}{j f:FE}(h:tDS (Dm.m6 i j f) D σ H):JH (mz i) (tD j) (tD f) D σ H:=by
 obtain⟨H0,ρ,o,st,e,k⟩:=h;unfold Dm.m6 at e;split at e
 ·cases e
 rename_i x ρ1 e1;split at e
 ·cases e
 rename_i d ρ2 e2;split at e
 case h_2=>cases e
 rename_i d0 h2;split at e
 ·rename_i m ρ3 e3;split at e
  ·rename_i ks vs h3;split at e
   case isFalse=>cases e
   rename_i hz;cases e;refine⟨H0,ρ,_,ρ1,st,e1,fun v H0' H' t r=>?_⟩;obtain⟨H1,t1,b1,r1,_,_⟩:=take1 t (au.refl _) r e2;obtain⟨a0,q0,_,_⟩:=t1.st.ow i _ h2;refine⟨_,q0,H1,ρ2,_,ρ3,t1.st,e3,fun u H2 Hc t2 r2=>?_⟩;obtain⟨a,q,n,w⟩:=t2.st.ow i _ h3;rw[q0]at q;cases q;obtain⟨kvs,y,ek,rs⟩:=w;have hu:=Rep.isInt r2;subst hu;obtain⟨p1,p2⟩:=m7 m (r1.mono t2.stp.s0) ek rs;have D9:kvs.length=ks.length:=by
    have:=congrArg List.length ek
    simpa using this
   refine⟨a0,_,rfl,Cs.k (k:=TU m) y (by rw[D9];exact Tj hz (by decide)),?_⟩;have ow:ao σ ρ3 a0:=⟨i,_,h3,q0⟩
   have tt:=t1.trans t2;exact k σ H2 _ ⟨t2.st.write h3 q0 ⟨_,aq,p1,p2⟩,tt.stp.trans (Stp.write ow) fun b z=>.inl (tt.own b z),fun b z=>.inl (tt.own b (cu h3 z)),rfl⟩
  ·cases e
 ·cases e
theorem R3{fa fb:FE}(h:tD (Dm.eD1 fa fb) σ H Q):JI [(tD fa,tD fb)] σ H Q:=by
 obtain⟨H0,ρ,x,ρ',st,e,k⟩:=h;unfold Dm.eD1 at e;split at e
 ·rename_i i ρ1 e1;split at e
  ·cases e
  rename_i y ρ2 e2;split at e
  ·cases e
  rename_i d ρ3 e3;cases e;intro p hp;have n0:H0 p=none:=st.same.free hp;have no:¬ao σ ρ p:=st.b7 hp;refine⟨H0,ρ,_,ρ1,st.aside n0 no,e1,fun u H1 Hb t1 r1=>⟨H1,ρ1,y,ρ2,t1.st,e2,fun v H2 Hc t2 r2=>?_⟩⟩;have tt:=t1.trans t2;obtain⟨H3,t3,b3,r3,_,_⟩:=take1 tt (au.refl _) (r2.early fun a n=>t1.stp.gone n) e3;obtain⟨hp3,n3,no3⟩:=t3.dP (o:=HO.dK []) aq n0 no;have hu:=Rep.isInt r1;subst hu;refine⟨hp3,[(TU i,v)],rfl,(by simp),?_⟩;have em:j7 [] [((TU i:Key),v)]=[(TU i,v)]:=rfl;rw[em];refine k _ H3 _ ⟨t3.st.aside n3 no3,⟨t3.stp.s0,fun a o y nb=>?_,fun a o y=>?_,fun a o y=>?_⟩,t3.own,t3.dfn⟩ ⟨p,rfl,hp,no3,n3,_,aq,rfl,.cons r3 .nil⟩
  ·have ne:a≠p:=fun q=>by rw[q,hp]at y;cases y
   rw[aj ne];exact t3.stp.s1 a o (by rw[aj ne];exact y) nb
  ·rcases t3.stp.s2 a o y with y1 | y1 | y1
   ·by_cases ne:a=p
    ·subst ne;rw[n3]at y;cases y
    ·rw[aj ne]at y1;exact .inl y1
   ·exact .inr (.inl y1)
   ·exact .inr (.inr y1)
  ·have ne:a≠p:=fun q=>by rw[q,hp]at y;cases y
   rw[aj ne];exact t3.stp.s3 a o (by rw[aj ne];exact y)
 ·cases e
end
theorem u1{k:Nat}{A:Around}(hr:aX k A):A.units+1<cLine:=US (Nat.add_le_add_left (by decide) _) hr.units
section
variable{X:Cx}{a b e:Expr}{fa fb f:FE}{pos:Pos}{k:Nat}
theorem R4:DE X (.Dict [] [] pos) Dm.eDn:=PE.weak Cu fun _ _ _=>R0
theorem R5(ha:DE X a fa)(hb:DE X b fb):DE X (.Dict [some a] [b] pos) (Dm.eD1 fa fb):=PE.weak (G0 (Cv ha hb GZ) rfl rfl (by simp) (by simp)) fun _ _ _=>R3
theorem Mx(hr:aX k X.A)(ha:DE X a fa)(hb:DE X b fb)(hs:LP b:=by intro _ _;rfl):DE X (.Subscript a b pos) (Dm.e2 Dm.gDx fa fb):=PE.weak (GX (u1 hr) ha hb hs) fun _ _ _=>xC PO
theorem JQ(hr:aX k X.A)(ha:DE X a fa)(hb:DE X b fb)(hm:behindInMarks .In b=false:=by rfl):DT X (.Compare a [.In] [b] pos) (Dm.tV (Dm.e2 Dm.Bb fa fb)):=PT.weak (B5 (LQ (u1 hr) ha hb) hm) fun σ H Q h=>xC Mt (sj h)
theorem My(hr:aX k X.A)(ha:DE X a fa)(hb:DE X b fb)(hm:behindInMarks .NotIn b=false:=by rfl):DT X (.Compare a [.NotIn] [b] pos) (Dm.tV (Dm.e2 Dm.uD fa fb)):=PT.weak (B5 (AZ (u1 hr) ha hb) hm) fun σ H Q h=>xC HF (sj h)
theorem Dh{MX cpos:Pos}(hr:aX k X.A)(ha:DE X a fa)(hb:DE X b fb)(m:M1 X a "get" MX b cpos:=by exact⟨rfl,rfl,rfl,rfl⟩):DE X (.Call (.Attribute a "get" MX) [b] [] cpos) (Dm.k7 fa fb):=PE.weak (CA (u1 hr) ha hb m) fun _ _ _=>Mu
theorem Di(i:Nat){x:Str}{px sp:Pos}(hr:aX k X.A)(hb:DE X b fb)(he:DE X e f)(hi:X.N[i]?=some x:=by rfl)(hv:Vis X.env.scope x:=by trivial)(hd:(x == ("__debug__" : Str))=false:=by decide)
  (J2:(x == ("__classdict__" : Str))=false:=by decide) (hs:swapsWith e (some (.Subscript (.Name x px) b sp)) pos.line X.env=pure false:=by rfl):DS X (.Assign [.Subscript (.Name x px) b sp] e pos) (Dm.m6 i fb f):=
 PS.weak (GY (u1 hr) (eZ hi hv hd J2) hb he hs) fun _ _ _=>Mw
end
section
variable{σ:L2.St}{H:Hp}{Q:VK}
theorem R6{K:Dp}{f:FE}{Q:Bool->Hp->Prop}(h:tDT (Dm.tTr f) σ H Q):tD f σ H fun x H'=>∃k,LA K x H' k/\Q k H':=by
 obtain⟨H0,ρ,b,ρ',st,e,k⟩:=h;unfold Dm.tTr at e;split at e
 ·cases e
 rename_i x ρ1 e1;split at e
 ·cases e
 rename_i d p1;split at e
 ·cases e
 rename_i c tc;cases e;refine⟨H0,ρ,x,_,st,e1,fun v H1 Hb t1 r1=>⟨b,?_,k H1 Hb t1⟩⟩;have rl:=r1.look t1.st p1;cases d with
 |non=>
  cases tc;rcases rl with r | ⟨a,_,w⟩
  ·cases r;rfl
  ·exact T8 w
 |bl c=>cases tc;cases G_ rl;rfl
 |int i=>cases tc;cases aA rl;rfl
 |tup es=>cases tc;obtain⟨a,xs,rfl,qa,rs⟩:=eL t1.st.same rl;refine .inr (.inl ⟨xs,SqT.of qa,?_⟩);cases rs<;>rfl
 |lst es=>cases tc;obtain⟨a,xs,rfl,qa,rs⟩:=bD t1.st.same rl;refine .inl ⟨xs,.inl qa,?_⟩;cases rs<;>rfl
 |str _=>cases tc
 |dct _ _=>cases tc
 |exc _=>cases tc
 |fn _=>cases tc
end
section
variable{X:Cx}{a:Expr}{fa:FE}{p pos:Pos}
theorem R7(ha:DE X a fa)(he:∀whole,isTrue a X.env whole=(do let v <- whole;standAt a.pos;holding [v] (truthy v)):=by intro _;rfl):DT X a (Dm.tTr fa):=PT.weak (Cj ha he) fun _ _ _=>R6
end
end Br
namespace Dm
noncomputable def fN:List Dat->Option (List Int)
 |[]=>some []
 |.int i::r=>(fN r).map fun ns=>i::ns
 |_=>none
end Dm
namespace Br
open PySem PySem.Spec PyProof.Rows L2
theorem intsAre_of:∀{ns:List Int} {its:List Value},Vals (ns.map V.int) its->IntsAre its ns
 |[],_,r=>by cases r;exact .nil
 |n::ns,_,r=>by
  rw[eg]at r;cases r with
  |cons h t=>obtain⟨tk,rfl⟩:=h;exact .cons _ _ (intsAre_of t)
theorem m8{H0:Hp}:∀{ds:List Dat} {xs:List V} {ns:List Int},aD H0 xs ds->Dm.fN ds=some ns->xs=ns.map V.int
 |[],_,ns,r,e=>by cases r;cases e;rfl
 |d::ds,_,ns,r,e=>by
  cases r with
  |cons h t=>
   cases d with
   |int i=>
    unfold Dm.fN at e;cases q:Dm.fN ds with
    |none=>rw[q]at e;cases e
    |some ms=>rw[q]at e;cases e;cases Rep.isInt h;rw[m8 t q];rfl
   |_=>cases e
end Br
namespace Ts
open PySem PyProof.Rows
variable{M:Model}{A:Around}{E:Value->Shared->Prop}{s:Shared}{κ:KeyKind}{kd:SortKind}{a₀:Array Keyed}
def qd(M:Model)(A:Around)(E:Value->Shared->Prop)(s:Shared)(κ:KeyKind)(kd:SortKind):Prop:=
 ∀(x y:Keyed) (a b:κ.α) (st:SortSt) (Q:Option Bool->SortSt->Prop),κ.keyOf x.1=some a->κ.keyOf y.1=some b->kindOf st=kd->Q (some (κ.blt a b)) st->wpS M A E s (lt' x y) Q st
structure SB(kd:SortKind)(a₀:Array Keyed)(st:SortSt):Prop where
 perm:(arrOf st).Perm a₀
 kind:kindOf st=kd
 failed:failedOf st=none
theorem SB.size{st:SortSt}(h:SB kd a₀ st):(arrOf st).size=a₀.size:=h.perm.size_eq
theorem SB.arr{st:SortSt}(h:SB kd a₀ st){xs:Array Keyed}(hp:xs.Perm (arrOf st)):SB kd a₀ (setArr st xs):=⟨hp.trans h.perm,h.kind,h.failed⟩
theorem SB.pend{st:SortSt}(h:SB kd a₀ st)(p:Array (Nat×Nat×Nat)):SB kd a₀ (setPending st p):=⟨h.perm,h.kind,h.failed⟩
theorem SB.keys{st:SortSt}(h:SB kd a₀ st)(h0:KeysOf κ a₀):KeysOf κ (arrOf st):=fun p hp=>h0 p ((VM.mp h.perm).mem_iff.mp hp)
theorem fy{xs:Array Keyed}(h:KeysOf κ xs){i:Nat}(hi:i<xs.size):∃p,xs[i]?=some p/\κ.keyOf p.1=some (KK κ xs i):=by refine⟨xs[i],getElem?_pos xs i hi,?_⟩;obtain⟨a,e⟩:=h xs[i] (by simp);unfold KK;rw[getElem?_pos xs i hi];dsimp only;rw[e];rfl
theorem qK(hL:qd M A E s κ kd){st:SortSt}(hB:SB kd a₀ st)(h0:KeysOf κ a₀){i j:Nat}(hi:i<a₀.size)(hj:j<a₀.size){Q:Option Bool->SortSt->Prop}
  (h:Q (some (κ.blt (KK κ (arrOf st) i) (KK κ (arrOf st) j))) st):wpS M A E s (ltAt' i j) Q st:=by
 obtain⟨p,ep,kp⟩:=fy (hB.keys h0) (i:=i) (by rw[hB.size];exact hi);obtain⟨q,eq,kq⟩:=fy (hB.keys h0) (i:=j) (by rw[hB.size];exact hj);rw[ltAt'_eq];refine wpS_bind (wpS_get ?_);show wpS _ _ _ _ (elem' (arrOf st) i >>= fun x=>elem' (arrOf st) j >>= fun y=>lt' x y) Q st;rw[elem'_eq,elem'_eq,ep,eq];exact wpS_bind (wpS_pure (wpS_bind (wpS_pure (hL p q _ _ st Q kp kq hB.kind h))))
def Seg(κ:KeyKind)(xs:Array Keyed)(i j:Nat):Prop:=∀p q,i<=p->p<=q->q<j->κ.kle (KK κ xs p) (KK κ xs q)
def Bc(κ:KeyKind)(xs:Array Keyed)(i j:Nat):Prop:=∀p q,i<=p->p<=q->q<j->κ.kle (KK κ xs q) (KK κ xs p)
def Out(xs ys:Array Keyed)(i j:Nat):Prop:=∀k,(k<i\/j<=k)->ys[k]?=xs[k]?
theorem Out.refl(xs:Array Keyed)(i j:Nat):Out xs xs i j:=fun _ _=>rfl
theorem Out.trans{xs ys zs:Array Keyed}{i j:Nat}(h:Out xs ys i j)(h':Out ys zs i j):Out xs zs i j:=fun k hk=>(h' k hk).trans (h k hk)
theorem Out.mono{xs ys:Array Keyed}{i j i' j':Nat}(h:Out xs ys i j)(h1:i'<=i)(h2:j<=j'):Out xs ys i' j':=fun k hk=>h k (by lia)
theorem fB{xs:Array Keyed}{i j:Nat}(hj:j<=xs.size):Out xs (mirror xs i j ((j-i) / 2)) i j:=fun k hk=>by rw[getElem?_mirror_all hj,if_neg (by lia)]
theorem xP{xs:Array Keyed}{src d:Nat}(hs:src<xs.size)(hd:d<=src):Out xs (bubble xs src d) (src-d) (src+1):=fun k hk=>by rw[getElem?_bubble hs d hd,if_neg (by lia),if_neg (by lia)]
theorem Mz(hL:qd M A E s κ kd)(h0:KeysOf κ a₀){st:SortSt}(hB:SB kd a₀ st){lo n ok:Nat}(hn:lo+n<=a₀.size)(h1:1<=ok)(hok:ok<=n)(hs:Seg κ (arrOf st) lo (lo+ok)){Q:Bool->SortSt->Prop}
  (h:∀xs,xs.Perm (arrOf st)->Seg κ xs lo (lo+n)->Out (arrOf st) xs lo (lo+n)->Q true (setArr st xs)):wpS M A E s (binarySort' lo n ok) Q st:=by
 rw[binarySort'_eq];refine wpS_bind (wpS_mono (wpS_forRange (I:=fun k c st'=>c=(none,())/\∃xs,st'=setArr st xs/\xs.Perm (arrOf st)/\Seg κ xs lo (lo+k)/\Out (arrOf st) xs lo (lo+n)) (Q:=fun c st'=>c=(none,())/\∃xs,st'=setArr st xs/\xs.Perm (arrOf st)/\Seg κ xs lo (lo+n)/\Out (arrOf st) xs lo (lo+n)) ?step ?Fp ?ini) ?post)
 case ini=>refine⟨rfl,arrOf st,rfl,Array.Perm.refl _,?_,Out.refl _ _ _⟩;rw[show max ok 1=ok by lia];exact hs
 case Fp=>rintro c st' ⟨rfl,xs,rfl,hp,hsg,ho⟩;rw[show max (max ok 1) n=n by lia]at hsg;exact⟨rfl,xs,rfl,hp,hsg,ho⟩
 case post=>rintro c st' ⟨rfl,xs,rfl,hp,hsg,ho⟩;exact wpS_pure (h xs hp hsg ho)
 case step=>
  rintro k c st' hk1 hk2 ⟨rfl,xs,rfl,hp,hsg,ho⟩;dsimp only;have hB':SB kd a₀ (setArr st xs):=hB.arr hp;have hsz:xs.size=a₀.size:=hB'.size;refine wpS_bind (wpS_mono (wpS_forRange (I:=fun i c st'=>∃ l r,c=(none,l,r)∧st'=setArr st xs∧l≤r∧r≤k∧r-l≤k-i∧(∀ p,p<l→κ.kle (KK κ xs (lo+p)) (KK κ xs (lo+k)))∧(∀ p,r≤p→p<k→κ.klt (KK κ xs (lo+k)) (KK κ xs (lo+p))))
   (Q:=fun c st'=>∃l,c=(none,l,l)/\st'=setArr st xs/\l<=k/\(∀p,p<l->κ.kle (KK κ xs (lo+p)) (KK κ xs (lo+k)))/\(∀p,l<=p->p<k->κ.klt (KK κ xs (lo+k)) (KK κ xs (lo+p)))) ?st2 ?fi2 ⟨0,k,rfl,rfl,TM _,PU _,by lia,fun p hp=>by lia,fun p h1 h2=>by lia⟩) ?po2)
  case fi2=>
   rintro c st' ⟨l,r,rfl,rfl,h1,h2,h3,h4,h5⟩;have:l=r:=by lia
   subst this;exact⟨l,rfl,rfl,h2,h4,h5⟩
  case st2=>
   rintro i c st' _ hi ⟨l,r,rfl,rfl,h1,h2,h3,h4,h5⟩;dsimp only;by_cases hlr:l≥r
   ·rw[if_pos hlr];have:l=r:=by lia
    subst this;exact wpS_pure ⟨l,rfl,rfl,h2,h4,h5⟩
   ·rw[if_neg hlr];refine wpS_bind (qK hL hB' h0 (by lia) (by lia) ?_);dsimp only;cases hb:κ.blt (KK κ (arrOf (setArr st xs)) (lo+k)) (KK κ (arrOf (setArr st xs)) (lo+(l+r) / 2))
    case true=>rw[if_pos rfl];refine wpS_pure ⟨l,(l+r) / 2,rfl,rfl,by lia,by lia,by lia,h4,fun p hp1 hp2=>?_⟩;exact KeyOrd.klt_of_klt_of_kle hb (hsg _ _ (by lia) (by lia) (by lia))
    case false=>rw[if_neg (by decide)];refine wpS_pure ⟨(l+r) / 2+1,r,rfl,rfl,by lia,h2,by lia,fun p hp1=>?_,h5⟩;exact Wj (hsg _ _ (by lia) (by lia) (by lia)) hb
  case po2=>
   rintro c st' ⟨l,rfl,rfl,hlk,hlo,hhi⟩;dsimp only;rw[moveDown'_eq];have hd:lo+k-(lo+l)=k-l:=by lia
   have hsk:lo+k<xs.size:=by lia
   refine wpS_bind (wpS_modify (wpS_pure ⟨rfl,bubble xs (lo+k) (lo+k-(lo+l)),rfl,(bubble_perm _ _ _).trans hp,?_,ho.trans ((xP hsk (by lia)).mono (by lia) (by lia))⟩));intro p q h1 h2 h3;rw[KK_bubble hsk (by lia),KK_bubble hsk (by lia)];rw[show lo+k-(lo+k-(lo+l))=lo+l by lia];by_cases hp1:p=lo+l
   ·rw[if_pos hp1];by_cases hq1:q=lo+l
    ·rw[if_pos hq1];exact UI _
    ·rw[if_neg hq1,if_pos (by lia)];have:=hhi (q-1-lo) (by lia) (by lia);rw[show lo+(q-1-lo)=q-1 by lia]at this;exact V6 this
   ·rw[if_neg hp1];by_cases hp2:lo+l<p/\p<=lo+k
    ·rw[if_pos hp2,if_neg (by lia),if_pos (by lia)];exact hsg _ _ (by lia) (by lia) (by lia)
    ·rw[if_neg hp2];by_cases hq1:q=lo+l
     ·rw[if_pos hq1];have:=hlo (p-lo) (by lia);rw[show lo+(p-lo)=p by lia]at this;exact this
     ·rw[if_neg hq1];by_cases hq2:lo+l<q/\q<=lo+k
      ·rw[if_pos hq2];exact hsg _ _ (by lia) (by lia) (by lia)
      ·rw[if_neg hq2];exact hsg _ _ (by lia) (by lia) (by lia)
end Ts
namespace Ts
open PySem PyProof.Rows
variable{M:Model}{A:Around}{E:Value->Shared->Prop}{s:Shared}{κ:KeyKind}{kd:SortKind}{a₀:Array Keyed}
noncomputable def upL(lo k nrem:Nat):StateT SortSt Sem (Option Nat):=do
 let mut m:=k
 for _ in [k:nrem] do
  let some c <- ltAt' (lo+m) (lo+m-1)
   |return none
  if c then break
  m:=m+1
 return some m
noncomputable def JR(lo k nrem:Nat):StateT SortSt Sem (Option Nat):=do
 rule "list.sort.descending-run"
 let mut m:=k+1
 let mut e:=0
 for _ in [k+1:nrem] do
  let some c <- ltAt' (lo+m) (lo+m-1)
   |return none
  if c then
   if e>0 then reverseSlice' (lo+m-(e+1)) (lo+m)
   e:=0
  else
   let some d <- ltAt' (lo+m-1) (lo+m)
    |return none
   if d then break
   e:=e+1
  m:=m+1
 if e>0 then reverseSlice' (lo+m-(e+1)) (lo+m)
 reverseSlice' lo (lo+m)
 let mut z:=m
 for _ in [m:nrem] do
  let some c <- ltAt' (lo+z) (lo+z-1)
   |return none
  if c then break
  z:=z+1
 return some z
theorem HG{xs:Array Keyed}{i:Nat}:Seg κ xs i (i+1):=fun p q a b c=>by
 have:p=q:=by lia
 subst this;exact UI _
theorem uE{xs:Array Keyed}{i n:Nat}(h:Seg κ xs i (i+n))(h1:1<=n)(hb:κ.kle (KK κ xs (i+n-1)) (KK κ xs (i+n))):Seg κ xs i (i+(n+1)):=fun p q a b c=>by
 by_cases hq:q<i+n
 ·exact h p q a b hq
 ·have:q=i+n:=by lia
  subst this;by_cases hp:p=i+n
  ·subst hp;exact UI _
  ·exact Wj (h p (i+n-1) a (by lia) (by lia)) hb
theorem eO{xs:Array Keyed}{i n:Nat}(h:Bc κ xs i (i+n))(h1:1<=n)(hb:κ.kle (KK κ xs (i+n)) (KK κ xs (i+n-1))):Bc κ xs i (i+(n+1)):=fun p q a b c=>by
 by_cases hq:q<i+n
 ·exact h p q a b hq
 ·have:q=i+n:=by lia
  subst this;by_cases hp:p=i+n
  ·subst hp;exact UI _
  ·exact Wj hb (h p (i+n-1) a (by lia) (by lia))
section
variable{prog:Program}{w:World}
theorem PR(hL:qd (model prog w) A E s κ kd)(h0:KeysOf κ a₀){st:SortSt}(hB:SB kd a₀ st){lo k nrem:Nat}(hn:lo+nrem<=a₀.size)(h1:1<=k)(hk:k<=nrem)(hs:Seg κ (arrOf st) lo (lo+k)){Q:Option Nat->SortSt->Prop}
  (h:∀n,k<=n->n<=nrem->Seg κ (arrOf st) lo (lo+n)->Q (some n) st):wpS (model prog w) A E s (upL lo k nrem) Q st:=by
 unfold upL;refine wpS_bind (wpS_mono (wpS_forRange (I:=fun i c st'=>c=(none,i)/\st'=st/\i<=nrem/\Seg κ (arrOf st) lo (lo+i)) (Q:=fun c st'=>∃n,c=(none,n)/\st'=st/\k<=n/\n<=nrem/\Seg κ (arrOf st) lo (lo+n)) ?st1 ?fi1 ⟨rfl,rfl,hk,hs⟩) ?po1)
 case fi1=>rintro c st' ⟨rfl,rfl,hle,hsg⟩;exact⟨_,rfl,rfl,by lia,hle,hsg⟩
 case st1=>
  rintro i c st' hi1 hi2 ⟨rfl,rfl,hle,hsg⟩;dsimp only;refine wpS_bind (qK hL hB h0 (by lia) (by lia) ?_);dsimp only;cases hb:κ.blt (KK κ (arrOf st') (lo+i)) (KK κ (arrOf st') (lo+i-1))
  case true=>rw[if_pos rfl];exact wpS_pure ⟨i,rfl,rfl,hi1,hle,hsg⟩
  case false=>rw[if_neg (by decide)];exact wpS_pure ⟨rfl,rfl,by lia,uE hsg (by lia) hb⟩
 case po1=>rintro c st' ⟨n,rfl,rfl,h2,h3,h4⟩;exact wpS_pure (h n h2 h3 h4)
theorem sD{xs:Array Keyed}{i j:Nat}(hj:j<=xs.size)(he:∀k,i<=k->k<j->KK κ xs k=KK κ xs (j-1)):∀k,KK κ (mirror xs i j ((j-i) / 2)) k=KK κ xs k:=KK_mirror_equal hj he
theorem zx(hL:qd (model prog w) A E s κ kd)(h0:KeysOf κ a₀){st:SortSt}(hB:SB kd a₀ st){lo k nrem:Nat}(hn:lo+nrem<=a₀.size)(h1:1<=k)(hk:k<nrem)(hs:Bc κ (arrOf st) lo (lo+(k+1))){Q:Option Nat->SortSt->Prop}
  (h:∀n xs,1<=n->n<=nrem->xs.Perm (arrOf st)->Seg κ xs lo (lo+n)->Out (arrOf st) xs lo (lo+nrem)->Q (some n) (setArr st xs)):wpS (model prog w) A E s (JR lo k nrem) Q st:=by
 unfold JR;refine wpS_bind (wpS_lift (wpAny_rule ⟨rfl,?_⟩));refine wpS_bind (wpS_mono (wpS_forRange
  (I:=fun i c st'=>∃e xs,c=(none,i,e)/\st'=setArr st xs/\i<=nrem/\xs.Perm (arrOf st)/\Out (arrOf st) xs lo (lo+nrem)/\Bc κ xs lo (lo+i)/\e+1<=i/\∀p,lo+i-(e+1)<=p->p<lo+i->KK κ xs p=KK κ xs (lo+i-1))
  (Q:=fun c st'=>∃e i xs,c=(none,i,e)/\st'=setArr st xs/\k+1<=i/\i<=nrem/\xs.Perm (arrOf st)/\Out (arrOf st) xs lo (lo+nrem)/\Bc κ xs lo (lo+i)/\e+1<=i/\∀p,lo+i-(e+1)<=p->p<lo+i->KK κ xs p=KK κ xs (lo+i-1)) ?st1 ?fi1 ?in1) ?po1)
 case in1=>exact⟨0,arrOf st,rfl,rfl,by lia,Array.Perm.refl _,Out.refl _ _ _,hs,by lia,fun p h2 h3=>by rw[show p=lo+(k+1)-1 by lia]⟩
 case fi1=>rintro c st' ⟨e,xs,rfl,rfl,h2,h3,h4,h5,h6,h7⟩;exact⟨e,_,xs,rfl,rfl,by lia,h2,h3,h4,h5,h6,h7⟩
 case st1=>
  rintro i c st' hi1 hi2 ⟨e,xs,rfl,rfl,h2,h3,h4,h5,h6,h7⟩;have hB':SB kd a₀ (setArr st xs):=hB.arr h3;have hsz:xs.size=a₀.size:=hB'.size;dsimp only;refine wpS_bind (qK hL hB' h0 (by lia) (by lia) ?_);dsimp only;cases hb:κ.blt (KK κ (arrOf (setArr st xs)) (lo+i)) (KK κ (arrOf (setArr st xs)) (lo+i-1))
  case true=>
   rw[if_pos rfl];have hd:κ.kle (KK κ xs (lo+i)) (KK κ xs (lo+i-1)):=V6 hb;by_cases he:e>0
   ·rw[if_pos he,reverseSlice'_eq];have ke:=sD (κ:=κ) (xs:=xs) (i:=lo+i-(e+1)) (j:=lo+i) (by lia) h7;refine wpS_bind (wpS_modify (wpS_pure ⟨0,mirror xs (lo+i-(e+1)) (lo+i) ((lo+i-(lo+i-(e+1))) / 2),rfl,rfl,by lia,(mirror_perm _ _ _ _).trans h3,h4.trans ((fB (by lia)).mono (by lia) (by lia)),?_,by lia,fun p h8 h9=>by rw[show p=lo+(i+1)-1 by lia]⟩));have:=eO h5 (by lia) hd;exact fun p q a b c=>by rw[ke,ke];exact this p q a b c
   ·rw[if_neg he];exact wpS_pure ⟨0,xs,rfl,rfl,by lia,h3,h4,eO h5 (by lia) hd,by lia,fun p h8 h9=>by rw[show p=lo+(i+1)-1 by lia]⟩
  case false=>
   rw[if_neg (by decide)];refine wpS_bind (qK hL hB' h0 (by lia) (by lia) ?_);dsimp only;cases hb2:κ.blt (KK κ (arrOf (setArr st xs)) (lo+i-1)) (KK κ (arrOf (setArr st xs)) (lo+i))
   case true=>rw[if_pos rfl];exact wpS_pure ⟨e,i,xs,rfl,rfl,hi1,h2,h3,h4,h5,h6,h7⟩
   case false=>
    rw[if_neg (by decide)];have heq:KK κ xs (lo+i-1)=KK κ xs (lo+i):=κ.total _ _ hb2 hb;refine wpS_pure ⟨e+1,xs,rfl,rfl,by lia,h3,h4,eO h5 (by lia) hb2,by lia,fun p h8 h9=>?_⟩;rw[show lo+(i+1)-1=lo+i by lia];by_cases hp:p=lo+i
    ·rw[hp]
    ·rw[h7 p (by lia) (by lia),heq]
 case po1=>
  rintro c st' ⟨e,i,xs,rfl,rfl,hki,h2,h3,h4,h5,h6,h7⟩;have hB':SB kd a₀ (setArr st xs):=hB.arr h3;have hsz:xs.size=a₀.size:=hB'.size;dsimp only;have last:∀ys,ys.Perm xs->(∀p,KK κ ys p=KK κ xs p)->Out xs ys lo (lo+nrem)->wpS (model prog w) A E s (reverseSlice' lo (lo+i) >>= fun _=>upL lo i nrem) Q (setArr st ys):=fun ys hp hk hO=>by
   rw[reverseSlice'_eq];have SS:ys.size=a₀.size:=hp.size_eq.trans hsz;refine wpS_bind (wpS_modify ?_);have hB2:SB kd a₀ (setArr st (mirror ys lo (lo+i) ((lo+i-lo) / 2))):=hB.arr ((mirror_perm _ _ _ _).trans (hp.trans h3));refine PR hL h0 hB2 hn (by lia) h2 (fun p q a b c=>?_) fun n h8 h9 h10=>?_
   ·show κ.kle (KK κ (mirror ys lo (lo+i) ((lo+i-lo) / 2)) p) (KK κ (mirror ys lo (lo+i) ((lo+i-lo) / 2)) q);rw[KK_mirror (by lia),KK_mirror (by lia),if_pos (by lia),if_pos (by lia),hk,hk];exact h5 _ _ (by lia) (by lia) (by lia)
   ·exact h n _ (by lia) h9 ((mirror_perm _ _ _ _).trans (hp.trans h3)) h10 ((h4.trans hO).trans ((fB (by lia)).mono (by lia) (by lia)))
  by_cases he:e>0
  ·rw[if_pos he];refine wpS_bind ?_;rw[reverseSlice'_eq];refine wpS_modify ?_;exact last (mirror xs (lo+i-(e+1)) (lo+i) ((lo+i-(lo+i-(e+1))) / 2)) (mirror_perm _ _ _ _) (sD (xs:=xs) (by lia) h7) ((fB (xs:=xs) (by lia)).mono (by lia) (by lia))
  ·rw[if_neg he];exact last xs (Array.Perm.refl _) (fun _=>rfl) (Out.refl _ _ _)
theorem sF(hL:qd (model prog w) A E s κ kd)(h0:KeysOf κ a₀){st:SortSt}(hB:SB kd a₀ st){lo nrem:Nat}(hn:lo+nrem<=a₀.size)(h1:1<=nrem){Q:Option Nat->SortSt->Prop}
  (h:∀n xs,1<=n->n<=nrem->xs.Perm (arrOf st)->Seg κ xs lo (lo+n)->Out (arrOf st) xs lo (lo+nrem)->Q (some n) (setArr st xs)):wpS (model prog w) A E s (countRun' lo nrem) Q st:=by
 rw[countRun'_eq];refine wpS_bind (wpS_mono (wpS_forRange (I:=fun i c st'=>c=(none,i)∧st'=st∧i≤nrem∧Seg κ (arrOf st) lo (lo+i))
  (Q:=fun c st'=>∃n,c=(none,n)/\st'=st/\1<=n/\n<=nrem/\Seg κ (arrOf st) lo (lo+n)/\(n=nrem\/κ.klt (KK κ (arrOf st) (lo+n)) (KK κ (arrOf st) (lo+n-1)))) ?st1 ?fi1 ⟨rfl,rfl,h1,HG⟩) ?po1)
 case fi1=>rintro c st' ⟨rfl,rfl,hle,hsg⟩;exact⟨_,rfl,rfl,by lia,hle,hsg,.inl (by lia)⟩
 case st1=>
  rintro i c st' hi1 hi2 ⟨rfl,rfl,hle,hsg⟩;dsimp only;refine wpS_bind (qK hL hB h0 (by lia) (by lia) ?_);dsimp only;cases hb:κ.blt (KK κ (arrOf st') (lo+i)) (KK κ (arrOf st') (lo+i-1))
  case true=>rw[if_pos rfl];exact wpS_pure ⟨i,rfl,rfl,hi1,hle,hsg,.inr hb⟩
  case false=>rw[if_neg (by decide)];exact wpS_pure ⟨rfl,rfl,by lia,uE hsg hi1 hb⟩
 case po1=>
  rintro c st' ⟨n,rfl,rfl,hn1,hle,hsg,hstop⟩;dsimp only;by_cases hnn:n=nrem
  ·rw[if_pos (by simpa using hnn)];exact wpS_pure (h n _ hn1 hle (Array.Perm.refl _) hsg (Out.refl _ _ _))
  ·rw[if_neg (by simpa using hnn)];have En:κ.klt (KK κ (arrOf st') (lo+n)) (KK κ (arrOf st') (lo+n-1)):=hstop.resolve_left hnn;by_cases hn2:n>1
   ·rw[if_pos hn2];refine wpS_bind (qK hL hB h0 (by lia) (by lia) ?_);dsimp only;cases hb:κ.blt (KK κ (arrOf st') lo) (KK κ (arrOf st') (lo+n-1))
    case true=>rw[if_pos rfl];exact wpS_pure (h n _ hn1 hle (Array.Perm.refl _) hsg (Out.refl _ _ _))
    case false=>
     rw[if_neg (by decide)];have hsz:=hB.size;have MA:∀p,lo<=p->p<lo+n->KK κ (arrOf st') p=KK κ (arrOf st') (lo+n-1):=fun p h2 h3=>KeyOrd.kle_antisymm (hsg p _ h2 (by lia) (by lia)) (Wj hb (hsg lo p (by lia) h2 h3))
     have ke:=sD (κ:=κ) (xs:=arrOf st') (i:=lo) (j:=lo+n) (by lia) MA;refine wpS_bind ?_;rw[reverseSlice'_eq];refine wpS_modify ?_;have hB2:SB kd a₀ (setArr st' (mirror (arrOf st') lo (lo+n) ((lo+n-lo) / 2))):=hB.arr (mirror_perm _ _ _ _);refine zx hL h0 hB2 hn hn1 (by lia) ?_ fun m xs h2 h3 h4 h5 h6=>?_
     ·have:Bc κ (arrOf st') lo (lo+(n+1)):=eO (fun p q a b c=>by rw[MA p a (by lia),MA q (by lia) c];exact UI _) hn1 (V6 En);intro p q a b c;show κ.kle (KK κ (mirror (arrOf st') lo (lo+n) ((lo+n-lo) / 2)) q) (KK κ (mirror (arrOf st') lo (lo+n) ((lo+n-lo) / 2)) p);rw[ke,ke];exact this p q a b c
     ·exact h m xs h2 h3 (h4.trans (mirror_perm _ _ _ _)) h5 (((fB (by lia)).mono (by lia) (by lia)).trans h6)
   ·rw[if_neg hn2];have:n=1:=by lia
    subst this;refine zx hL h0 hB hn hn1 (by lia) ?_ h;exact eO (fun p q a b c=>by
     have:p=q:=by lia
     subst this;exact UI _) hn1 (V6 En)
end
end Ts
namespace Ts
open PySem PyProof.Rows
variable{M:Model}{A:Around}{E:Value->Shared->Prop}{s:Shared}{κ:KeyKind}{kd:SortKind}{a₀:Array Keyed}
end Ts
namespace Ts
open PySem PyProof.Rows
variable{M:Model}{A:Around}{E:Value->Shared->Prop}{s:Shared}{κ:KeyKind}{kd:SortKind}{a₀:Array Keyed}
noncomputable def kp(κ:KeyKind)(p:Keyed):κ.α:=(κ.keyOf p.1).getD κ.dflt
def le(κ:KeyKind)(x y:Keyed):Prop:=κ.kle (kp κ x) (kp κ y)
theorem zy{a:Array Keyed}{i:Nat}:(a.extract i a.size).toList=a.toList.drop i:=by rw[Array.toList_extract,List.extract_eq_take_drop,Wa];rw[Vo,Te];exact PU _
theorem zz{xs:Array Keyed}(hk:KeysOf κ xs){i:Nat}(h:i<xs.size):κ.keyOf (xs[i]).1=some (kp κ xs[i])/\KK κ xs i=kp κ xs[i]:=by
 obtain⟨p,e,k⟩:=fy hk h;rw[getElem?_pos xs i h]at e;cases e;have:KK κ xs i=kp κ xs[i]:=by unfold kp;rw[k];rfl
 exact⟨by rw[k,this],this⟩
end Ts
namespace Ts
open PySem PyProof.Rows
variable{A:Around}{E:Value->Shared->Prop}{s:Shared}{κ:KeyKind}{kd:SortKind}{a₀:Array Keyed}{prog:Program}{w:World}
end Ts
namespace Ts
open PySem PyProof.Rows
variable{A:Around}{E:Value->Shared->Prop}{s:Shared}{κ:KeyKind}{kd:SortKind}{a₀:Array Keyed}{prog:Program}{w:World}
end Ts
namespace Ts
open PySem PyProof.Rows
variable{A:Around}{E:Value->Shared->Prop}{s:Shared}{κ:KeyKind}{kd:SortKind}{a₀:Array Keyed}{prog:Program}{w:World}
theorem ext_get{xs:Array Keyed}{i j n:Nat}(hj:j<=xs.size)(h:n<(xs.extract i j).toList.length):∃hn:i+n<xs.size,i+n<j/\(xs.extract i j).toList[n]=xs[i+n]:=by rw[Te,Array.size_extract]at h;refine⟨by lia,by lia,?_⟩;simp
theorem uF{xs:Array Keyed}(hk:KeysOf κ xs){i j:Nat}(hj:j<=xs.size):Seg κ xs i j↔(xs.extract i j).toList.Pairwise (le κ):=by
 rw[Ul];constructor
 ·intro h p q hp hq hpq;obtain⟨p1,p2,ep⟩:=ext_get hj hp;obtain⟨q1,q2,eq⟩:=ext_get hj hq;rw[ep,eq];have:=h (i+p) (i+q) (by lia) (by lia) q2;rw[(zz hk p1).2,(zz hk q1).2]at this;exact this
 ·intro h p q h1 h2 h3;by_cases e:p=q
  ·subst e;exact UI _
  have hl:(xs.extract i j).toList.length=j-i:=by rw[Te,Array.size_extract];lia
  obtain⟨p1,p2,ep⟩:=ext_get (i:=i) (n:=p-i) hj (by lia);obtain⟨q1,q2,eq⟩:=ext_get (i:=i) (n:=q-i) hj (by lia);have:=h (p-i) (q-i) (by lia) (by lia) (by lia);rw[ep,eq]at this;have e1:KK κ xs p=kp κ (xs[i+(p-i)]):=(congrArg (KK κ xs) (show p=i+(p-i) by lia)).trans (zz hk p1).2;have e2:KK κ xs q=kp κ (xs[i+(q-i)]):=(congrArg (KK κ xs) (show q=i+(q-i) by lia)).trans (zz hk q1).2;rw[e1,e2];exact this
end Ts
namespace Ts
open PySem PyProof.Rows
variable{A:Around}{E:Value->Shared->Prop}{s:Shared}{κ:KeyKind}{kd:SortKind}{a₀:Array Keyed}{prog:Program}{w:World}
end Ts
namespace Ts
open PySem PyProof.Rows
variable{A:Around}{E:Value->Shared->Prop}{s:Shared}{κ:KeyKind}{kd:SortKind}{prog:Program}{w:World}
theorem done_one{vs:List Value}(h:vs.toArray.size<2):Seg κ (pairsOf vs) 0 (pairsOf vs).size:=fun p q _ h2 h3=>by
 rw[pairsOf_size]at h3;simp at h;have:p=q:=by lia
 subst this;exact UI _
end Ts
namespace Ts
open PySem PyProof.Rows
variable{A:Around}{E:Value->Shared->Prop}{s:Shared}{κ:KeyKind}{kd:SortKind}{a₀:Array Keyed}{prog:Program}{w:World}
def Fi(κ:KeyKind)(kd:SortKind)(a₀:Array Keyed)(st:SortSt):Prop:=SB kd a₀ st/\Seg κ (arrOf st) 0 a₀.size/\(pendingOf st).size<=1
theorem m9(hL:qd (model prog w) A E s κ kd)(h0:KeysOf κ a₀){st:SortSt}(hB:SB kd a₀ st)(hp:pendingOf st=#[])(h1:1<=a₀.size)(h64:a₀.size<64){Q:Unit->SortSt->Prop}
  (h:∀st',SB kd a₀ st'->Seg κ (arrOf st') 0 a₀.size->Q () st'):wpS (model prog w) A E s sortRuns' Q st:=by
 rw[sortRuns'_eq];refine wpS_bind (wpS_get ?_)
 try dsimp only
 rw[hB.size];have em:minRun' a₀.size a₀.size 0=a₀.size:=by
  obtain⟨m,e⟩:∃m,a₀.size=m+1:=⟨a₀.size-1,by lia⟩
  rw[e]at h64 ⊢;rw[minRun'_succ,if_pos h64,Xv]
 rw[em];refine wpS_bind (wpS_mono (wpS_forRange (I:=fun x c st'=>(x=0∧c=(none,0)∧SB kd a₀ st'∧pendingOf st'=#[])∨(1≤x∧c=(none,a₀.size)∧Fi κ kd a₀ st'))
  (Q:=fun c st'=>c=(none,a₀.size)/\Fi κ kd a₀ st') ?st1 ?fi1 (.inl ⟨rfl,rfl,hB,hp⟩)) ?po1)
 case fi1=>
  rintro c st' (⟨hx,_⟩ | ⟨_,rfl,F⟩)
  ·lia
  ·exact⟨rfl,F⟩
 case st1=>
  rintro x c st' _ hx (⟨rfl,rfl,hB,hp⟩ | ⟨hx1,rfl,F⟩)
  ·try dsimp only
   rw[if_neg (by lia)];refine wpS_bind (sF hL h0 hB (by lia) (by lia) fun n xs hn1 hn2 hpm hsg hout=>?_)
   try dsimp only
   have Fp:∀(k:Nat) (ys:Array Keyed),k=a₀.size->ys.Perm (arrOf st')->Seg κ ys 0 (0+k)->(fun c st'=>(0+1=0/\c=(none,0)/\SB kd a₀ st'/\pendingOf st'=#[])\/(1<=0+1/\c=(none,a₀.size)/\Fi κ kd a₀ st')) ((none:Option Unit),0+k) (setPending (setArr st' ys) ((pendingOf (setArr st' ys)).push (0,k,0))):=fun k ys hk hpm hsg=>by subst hk;refine .inr ⟨by lia,by rw[Vn],(hB.arr hpm).pend _,by rw[Vn]at hsg;exact hsg,?_⟩;show ((pendingOf st').push _).size<=1;rw[hp];exact PU 1
   by_cases hmr:n<a₀.size
   ·rw[if_pos hmr];refine wpS_bind (wpS_lift (wpAny_rule ⟨rfl,?_⟩));have hB2:SB kd a₀ (setArr st' xs):=hB.arr hpm;refine wpS_bind (Mz hL h0 hB2 (by lia) hn1 (by lia) hsg fun ys hp2 hs2 ho2=>?_);rw[if_neg (by decide)];show wpS _ _ _ _ _ _ (setArr st' ys);refine wpS_bind (wpS_get ?_);split
    ·rename_i u m c hb;have:(pendingOf st').back?=some (u,m,c):=hb;rw[hp]at this;cases this
    ·exact wpS_bind (wpS_modify (wpS_pure (Fp _ ys (by lia) (hp2.trans hpm) hs2)))
   ·rw[if_neg hmr];refine wpS_bind (wpS_get ?_);split
    ·rename_i u m c hb;have:(pendingOf st').back?=some (u,m,c):=hb;rw[hp]at this;cases this
    ·exact wpS_bind (wpS_modify (wpS_pure (Fp _ xs (by lia) hpm hsg)))
  ·try dsimp only
   rw[if_pos (PU _)];exact wpS_pure ⟨rfl,F⟩
 case po1=>
  rintro c st' ⟨rfl,F⟩
  try dsimp only
  refine wpS_bind (wpS_mono (wpS_forRange (I:=fun _ c st'=>c=(none,())/\Fi κ kd a₀ st') (Q:=fun c st'=>c=(none,())/\Fi κ kd a₀ st') ?st2 (fun c st' z=>z) ⟨rfl,F⟩) ?po2)
  case st2=>
   rintro x c st' _ hx ⟨rfl,F⟩
   try dsimp only
   refine wpS_bind (wpS_get ?_);rw[if_pos F.2.2];exact wpS_pure ⟨rfl,F⟩
  case po2=>rintro c st' ⟨rfl,F⟩;exact wpS_pure (h st' F.1 F.2.1)
end Ts
namespace Ts
open PySem PyProof.Rows
variable{A:Around}{E:Value->Shared->Prop}{s:Shared}{κ:KeyKind}{kd:SortKind}{prog:Program}{w:World}
theorem xQ{a:Addr}{vs:List Value}{n:Nat}{R:Fin->Shared->Prop}(ho:s.heap.get? a=some (seqObj "list" vs.toArray n))(hn:vs.length<=63)
  (hk:KeysOf κ (pairsOf vs)) (hkk:∀h',(∀b o,b≠a->s.heap.get? b=some o->h'.get? b=some o)->2<=vs.length->∀{Q:SortKind->Shared->Prop},Q kd { s with heap:=h' }->wpAny (model prog w) A (keyKind' vs.toArray) Q E { s with heap:=h' })
  (hL:∀h',(∀b o,b≠a->s.heap.get? b=some o->h'.get? b=some o)->qd (model prog w) A E { s with heap:=h' } κ kd)
  (h:∀st':SortSt,(arrOf st').Perm (pairsOf vs)->Seg κ (arrOf st') 0 (pairsOf vs).size->R (.done (.ret .none)) { s with heap:=sortedHeap s.heap a vs ((arrOf st').map (·.2)) }) :
  wpAny (model prog w) A (Builtin.«list.sort» ⟨[.ref a],[]⟩) R E s:=by
 have lt:=S9 ho;have fits:sizeLine=sizeLine:=rfl;rw[list_sort_plain];refine wpAny_bind (listItems_at ho rfl (wpAny_bind (listUpdate_at ho rfl ?_ (hsz:=by simp;exact Tq hn (by decide)) (hsz2:=TM _))));obtain⟨ep,h1⟩:∃ep,(s.heap.update a (T5 fun _=>#[])).get? a=some (seqObj "list" #[] ep):=⟨_,get?_update_seq ho _⟩
 refine wpAny_bind (seqEpoch_at h1 rfl (wpAny_bind (wpAny_newTuple (wpAny_bind (wpAny_newList (wpAny_holding ?_))))));have h6:(((s.heap.update a (T5 fun _=>#[])).push (seqObj "tuple" vs.toArray 0)).push (seqObj "list" #[] 0)).get? a=some (seqObj "list" #[] ep):=by have z1:(s.heap.update a (T5 fun _=>#[])).objs.size=s.heap.objs.size:=Vp _ _ _;rw[Ve _ _ _ (by rw[size_push',z1];exact Ti (UD lt)),Ve _ _ _ (by rw[z1];exact Ti lt)];exact h1
 have ext:∀b o,b≠a->s.heap.get? b=some o->(((s.heap.update a (T5 fun _=>#[])).push (seqObj "tuple" vs.toArray 0)).push (seqObj "list" #[] 0)).get? b=some o:=fun b o hb e=>by have z1:(s.heap.update a (T5 fun _=>#[])).objs.size=s.heap.objs.size:=Vp _ _ _;have lb:=S9 e;rw[Ve _ _ _ (by rw[size_push',z1];exact Ti (UD lb)),Ve _ _ _ (by rw[z1];exact Ti lb),Ux _ _ _ _ hb];exact e
 show wpAny (model prog w) A _ R E { s with heap:=(((s.heap.update a (T5 fun _=>#[])).push (seqObj "tuple" vs.toArray 0)).push (seqObj "list" #[] 0)) };have hkk':=hkk _ ext;have hL':=hL _ ext;have Fp:∀st':SortSt,failedOf st'=none->(arrOf st').Perm (pairsOf vs)->Seg κ (arrOf st') 0 (pairsOf vs).size ->
   wpAny (model prog w) A (do
    let d <- seqEpoch a
    let touched:=d != ep
    Builtin.List.listUpdate (Tz a) fun _=>Array.map (fun x=>x.snd) (arrOf st')
    if let some e:=failedOf st' then
     rule "list.sort.comparison-raised"
     throw e
    if touched then
     rule "list.sort.modified"
     raiseError "ValueError" "list modified during sort"
    ret .none) R E { s with heap:=(((s.heap.update a (T5 fun _=>#[])).push (seqObj "tuple" vs.toArray 0)).push (seqObj "list" #[] 0)) }:=fun st' hf hp hs=>by
  refine wpAny_bind (seqEpoch_at h6 rfl ?_);have hz:(Array.map (fun x=>x.snd) (arrOf st')).size=vs.length:=by rw[V0,hp.size_eq,pairsOf_size]
  refine wpAny_bind (listUpdate_at h6 rfl ?_ (hsz:=TM _) (hsz2:=by rw[hz];exact Tq hn (by decide)));rw[hf];simp only[bne_self_eq_false,Tc,if_false];exact wpAny_pure (h st' hp hs)
 by_cases h2:vs.toArray.size<2
 ·rw[if_pos h2,if_pos h2];refine wpAny_bind (wpAny_pure ?_);refine wpAny_bind (show wpAny (model prog w) A ((pure ():StateT SortSt Sem Unit).run (WZ general' (vs.toArray.zip vs.toArray) #[] 7 none)) _ E _ from ?_);rw[StateT.run_pure];refine wpAny_pure ?_;exact Fp (WZ general' (vs.toArray.zip vs.toArray) #[] 7 none) rfl (Array.Perm.refl _) (done_one h2)
 ·rw[if_neg h2,if_neg h2];have hl:2<=vs.length:=by simp at h2;lia
  refine wpAny_bind (hkk' hl ?_);refine wpAny_bind (wpAny_mono (m9 (κ:=κ) hL' hk (st:=WZ kd (vs.toArray.zip vs.toArray) #[] 7 none) ⟨Array.Perm.refl _,rfl,rfl⟩ rfl (by rw [pairsOf_size];lia) (by rw [pairsOf_size];lia)
   (Q:=fun _ st'=>(arrOf st').Perm (pairsOf vs)/\failedOf st'=none/\Seg κ (arrOf st') 0 (pairsOf vs).size) fun st' sb sg=>⟨sb.perm,sb.failed,sg⟩) ?_ fun _ _ e=>e)
  rintro⟨⟨⟩,st'⟩ s' ⟨rfl,hp,hf,hs⟩;exact Fp st' hf hp hs
end Ts
namespace Dm
section
variable{α:Type}
noncomputable def lx:List Int->List Int->Bool
 |[],[]=>false
 |[],_::_=>true
 |_::_,[]=>false
 |a::x,b::y=>if a=b then lx x y else decide (a<b)
theorem dH:∀a,lx a a=false
 |[]=>rfl
 |a::x=>by rw[lx,if_pos rfl,dH x]
theorem eS:∀a b c,lx a b=true->lx b c=true->lx a c=true
 |[],[],_,h,_=>by cases h
 |[],_::_,[],_,h=>by cases h
 |[],_::_,_::_,_,_=>rfl
 |_::_,[],_,h,_=>by cases h
 |_::_,_::_,[],_,h=>by cases h
 |a::x,b::y,c::z,h1,h2=>by
  rw[lx]at h1 h2 ⊢;by_cases e1:a=b
  ·subst e1;rw[if_pos rfl]at h1;by_cases e2:a=c
   ·subst e2;rw[if_pos rfl]at h2 ⊢;exact eS x y z h1 h2
   ·rw[if_neg e2]at h2 ⊢;exact h2
  ·rw[if_neg e1]at h1;have h1:=of_decide_eq_true h1;by_cases e2:b=c
   ·subst e2;rw[if_neg e1];exact decide_eq_true h1
   ·rw[if_neg e2]at h2;have h2:=of_decide_eq_true h2;rw[if_neg (by lia)];exact decide_eq_true (by lia)
theorem eT:∀a b,lx a b=false->lx b a=false->a=b
 |[],[],_,_=>rfl
 |[],_::_,h,_=>by cases h
 |_::_,[],_,h=>by cases h
 |a::x,b::y,h1,h2=>by
  rw[lx]at h1 h2;by_cases e:a=b
  ·subst e;rw[if_pos rfl]at h1 h2;rw[eT x y h1 h2]
  ·rw[if_neg e]at h1;rw[if_neg (fun z=>e z.symm)]at h2;have h1:=of_decide_eq_false h1;have h2:=of_decide_eq_false h2
   lia
theorem sG(a b c:List Int)(h:lx a c=true):lx a b=true\/lx b c=true:=by
 by_cases h1:lx a b=true
 ·exact .inl h1
 ·refine .inr ?_;have h1':lx a b=false:=by simpa using h1
  by_cases h2:lx b a=true
  ·exact eS b a c h2 h
  ·have:=eT a b h1' (by simpa using h2);subst this;exact h
noncomputable def ins{α:Type}(lt:α->α->Bool)(x:α):List α->List α
 |[]=>[x]
 |y::l=>if lt y x then y::ins lt x l else x::y::l
noncomputable def bg{α:Type}(lt:α->α->Bool):List α->List α
 |[]=>[]
 |x::l=>ins lt x (bg lt l)
noncomputable def ng:List Dat->Option (List (List Int))
 |[]=>some []
 | .tup ds::r=>(match fN ds with
  |some ns=>if ns.isEmpty then none else (ng r).map fun nss=>ns::nss
  |none=>none)
 |_=>none
noncomputable def Bd(ns:List Int):Dat:=.tup (ns.map .int)
theorem ni(lt:α->α->Bool)(x:α):∀l,(ins lt x l).Perm (x::l)
 |[]=>List.Perm.refl _
 |y::l=>by
  rw[ins];split
  ·exact((ni lt x l).cons y).trans (Xi x y l)
  ·exact List.Perm.refl _
theorem bA(lt:α->α->Bool):∀l,(bg lt l).Perm l
 |[]=>List.Perm.refl _
 |x::l=>(ni lt x _).trans ((bA lt l).cons x)
theorem nj{lt:α->α->Bool}(tr:∀a b c,lt b a=false->lt c b=false->lt c a=false)(as:∀a b,lt a b=true->lt b a=false)(x:α):∀l:List α,l.Pairwise (fun a b=>lt b a=false)->(ins lt x l).Pairwise (fun a b=>lt b a=false)
 |[],_=>by simp[ins]
 |y::l,h=>by
  rw[ins];obtain⟨h1,h2⟩:=Uv.mp h;split
  ·rename_i hl;refine Uv.mpr ⟨fun z hz=>?_,nj tr as x l h2⟩;rcases S4.mp ((ni lt x l).mem_iff.mp hz) with rfl | hz
   ·exact as _ _ hl
   ·exact h1 z hz
  ·rename_i hl;have hl':lt y x=false:=by simpa using hl
   refine Uv.mpr ⟨fun z hz=>?_,h⟩;rcases S4.mp hz with rfl | hz
   ·exact hl'
   ·exact tr _ _ _ hl' (h1 z hz)
theorem bP{lt:α->α->Bool}(tr:∀a b c,lt b a=false->lt c b=false->lt c a=false)(as:∀a b,lt a b=true->lt b a=false):∀l:List α,(bg lt l).Pairwise (fun a b=>lt b a=false)
 |[]=>List.Pairwise.nil
 |x::l=>nj tr as x _ (bP tr as l)
theorem dX{lt:α->α->Bool}(tot:∀a b,lt a b=false->lt b a=false->a=b):∀{l m:List α},l.Perm m->l.Pairwise (fun a b=>lt b a=false)->m.Pairwise (fun a b=>lt b a=false)->l=m
 |[],m,p,_,_=>(List.nil_perm.mp p).symm
 |x::l,[],p,_,_=>by have:=p.length_eq;simp at this
 |x::l,y::m,p,h1,h2=>by
  obtain⟨a1,a2⟩:=Uv.mp h1;obtain⟨b1,b2⟩:=Uv.mp h2;have e:x=y:=by
   rcases S4.mp (p.mem_iff.mp gV) with hx | hx
   ·exact hx
   ·rcases S4.mp (p.mem_iff.mpr (gV (a:=y) (l:=m))) with hy | hy
    ·exact hy.symm
    ·exact tot x y (b1 x hx) (a1 y hy)
  subst e;rw[dX tot (Xw.cons_inv p) a2 b2]
end
end Dm
namespace Br
open PySem PySem.Spec PyProof.Rows L2
noncomputable def lexOrd:KeyOrd:=⟨List Int,Dm.lx,Dm.dH,Dm.eS,fun a b c h=>Dm.sG a b c h,Dm.eT⟩
noncomputable def f9:List V->Option (List Int)
 |[]=>some []
 |.int i::r=>(f9 r).map fun ns=>i::ns
 |_=>none
theorem cJ:∀ns:List Int,f9 (ns.map V.int)=some ns
 |[]=>rfl
 |n::ns=>by rw[eg,f9,cJ ns];rfl
theorem nk:∀{xs:List V} {ns:List Int},f9 xs=some ns->xs=ns.map V.int
 |[],ns,h=>by cases h;rfl
 |.int i::r,ns,h=>by
  unfold f9 at h;cases e:f9 r with
  |none=>rw[e]at h;cases h
  |some ms=>rw[e]at h;cases h;rw[nk e];rfl
 |.non::_,_,h=>by cases h
 |.bl _::_,_,h=>by cases h
 |.str _::_,_,h=>by cases h
 |.ref _::_,_,h=>by cases h
 |.byt _::_,_,h=>by cases h
 |.flt _::_,_,h=>by cases h
 |.ty _::_,_,h=>by cases h
noncomputable def qe(H:Hp):Value->Option (List Int)
 | .ref a=>(match H a with
  |some (.tup xs)=>f9 xs
  |_=>none)
 |_=>none
noncomputable def sI(H:Hp):KeyKind:={ lexOrd with keyOf:=qe H,dflt:=([]:List Int) }
section
variable{prog:Program}{w:World}{A:Around}{E:Value->Shared->Prop}{s:Shared}
theorem uG{Fp:Bool}{Q:Bool->Shared->Prop}:∀{xs ys:List Value} {ks ms:List Int} (i:Nat),IntsAre xs ks->IntsAre ys ms->Fp=decide (ks.length<ms.length)->Q (Dm.lx ks ms) s ->
  PySem.W.KatLex prog w A true Fp Q (xs.zip ys) i s
 |_,_,_,_,i,.nil,.nil,hf,q=>by subst hf;exact q
 |_,_,_,_,i,.nil,.cons m u h',hf,q=>by subst hf;exact q
 |_,_,_,_,i,.cons k t h,.nil,hf,q=>by subst hf;exact q
 |_,_,_,_,i,.cons k t h,.cons m u h',hf,q=>by
  rw[Um];refine Wl (wpAny_eqBool_int ?_);rw[Dm.lx]at q;by_cases e:k=m
  ·rw[if_pos e]at q;have:(k == m)=true:=by simpa using e
   rw[this];refine Wv (uG (i+1) h h' ?_ q);rw[hf];simp
  ·rw[if_neg e]at q;have:(k == m)=false:=by simpa using e
   rw[this];refine Xj ?_;cases hb:(true&&i == 0)
   ·exact PySem.W.kat_one _ _ (lt_int q)
   ·exact oneLt_int q
theorem qL{κ:KeyKind}{kd:SortKind}(h:∀(x y:Keyed) (a b:κ.α) {Q:Bool->Shared->Prop} {E:Value->Shared->Prop},κ.keyOf x.1=some a->κ.keyOf y.1=some b->Q (κ.blt a b) s->wpAny (model prog w) A (keyLt' kd x.1 y.1) Q E s):Ts.qd (model prog w) A E s κ kd:=fun x y a b st Q ha hb hk q=>by rw[lt'_eq];refine wpS_bind (wpS_get ?_);rw[hk];refine wpS_bind (wpS_lift (wpAny_attempt (h x y a b ha hb ⟨rfl,?_⟩)));exact wpS_pure q
end
noncomputable def bk:Value->V
 |.ref a=>.ref a
 |.int n _=>.int n
 |_=>.non
section
variable{X:Cx}
theorem kr{vs:List Value}{q:Keyed}(h:q∈(pairsOf vs).toList):q.1=q.2/\q.1∈vs:=by
 rw[pairsOf_toList]at h;have hh:∀(l:List Value) (q:Keyed),q∈l.zip l->q.1=q.2/\q.1∈l:=fun l=>by
  induction l with
  |nil=>intro q h;cases h
  |cons v l ih=>
   intro q h;rw[Um]at h;rcases S4.mp h with rfl | h
   ·exact⟨rfl,gV⟩
   ·exact⟨(ih q h).1,gc _ (ih q h).2⟩
 exact hh _ q h
theorem Be(vs:List Value):(pairsOf vs).toList.map (·.2)=vs:=by
 rw[pairsOf_toList];have hh:∀l:List Value,(l.zip l).map (·.2)=l:=fun l=>by
  induction l with
  |nil=>rfl
  |cons v l ih=>rw[Um,eg,ih]
 exact hh vs
theorem MB{κ:KeyKind}{vs:List Value}{st':SortSt}(hk:KeysOf κ (pairsOf vs))(hp:(arrOf st').Perm (pairsOf vs))(hs:Ts.Seg κ (arrOf st') 0 (pairsOf vs).size) :
  ∃out:List Value,((arrOf st').map (·.2))=out.toArray/\out.Perm vs/\out.Pairwise (fun u v=>∀a b,κ.keyOf u=some a->κ.keyOf v=some b->κ.blt b a=false):=by
 have pm:=VM.mp hp;refine⟨(arrOf st').toList.map (·.2),W2.mp (by rw[Array.toList_map]),?_,?_⟩
 ·have:=pm.map (·.2)
  rwa [Be]at this
 ·have ka:KeysOf κ (arrOf st'):=fun q hq=>hk q (pm.mem_iff.mp hq);have hz:(arrOf st').size=(pairsOf vs).size:=hp.size_eq;rw[<- hz]at hs;have:=(Ts.uF ka (i:=0) (j:=(arrOf st').size) (PU _)).mp hs;rw[Ts.zy,List.drop_zero]at this;rw[U3];refine VS ?_ this;intro x y hx hy hle a b ha hb;have e1:=(kr (pm.mem_iff.mp hx)).1;have e2:=(kr (pm.mem_iff.mp hy)).1;have hle':κ.blt (Ts.kp κ y) (Ts.kp κ x)=false:=hle;unfold Ts.kp at hle';rw[e1,e2,ha,hb]at hle';exact hle'
end
end Br
namespace Dm
noncomputable def ku(i:Nat)(e:FE):FE:=fun ρ=>match ρ[i]? with
 | some (.ow (.lst _))=>(match e ρ with
  | some (.val (.int j),ρ1)=>(match ρ1[i]? with
   | some (.ow (.lst ds))=>if 0≤j∧j≤BIG then (match ds[j.toNat]? with
     |some d=>some (.val d,ρ1.set i (.ow (.lst (ds.eraseIdx j.toNat))))
     |none=>none) else none
   |_=>none)
  |_=>none)
 |_=>none
noncomputable def isN:Dat->Bool
 |.non=>true
 |_=>false
noncomputable def xR:Dat->Dat->Option RV
 |d,.non=>vB (isN d)
 |_,_=>none
end Dm
namespace Br
open PySem PySem.Spec PyProof.Rows L2
theorem qM{H0:Hp}:∀{zs:List V} (ks:V->List Int),(∀z∈zs,∃a:Addr,z=.ref a/\H0 a=some (.tup ((ks z).map V.int)))->aD H0 zs ((zs.map ks).map Dm.Bd)
 |[],ks,_=>.nil
 |z::zs,ks,h=>by
  obtain⟨a,rfl,e⟩:=h z gV;refine .cons (.tup e ?_) (qM ks fun y hy=>h y (gc _ hy));have:∀ns:List Int,aD H0 (ns.map V.int) (ns.map Dat.int):=fun ns=>by
   induction ns with
   |nil=>exact .nil
   |cons n ns ih=>exact .cons (.int n) ih
  exact this _
theorem qN{H0:Hp}:∀ns:List Int,aD H0 (ns.map V.int) (ns.map Dat.int)
 |[]=>.nil
 |n::ns=>.cons (.int n) (qN ns)
section
variable{X:Cx}{a b c e:Expr}{f fa fb:FE}{fs:List FE}{p pos:Pos}
def PV(neg:Bool):R2:=fun x y H Q=>y=.non/\Q (.bl (if neg then !decide (x=V.non) else decide (x=V.non))) H
theorem HH{x:V}{v:Value}(r:RelV x v):(v == Xo)=decide (x=V.non):=by
 cases x with
 |non=>cases r;rfl
 |bl b=>cases r;rfl
 |int i=>obtain⟨t,rfl⟩:=r;rfl
 |str z=>obtain⟨t,rfl⟩:=r;rfl
 |byt z=>obtain⟨t,rfl⟩:=r;rfl
 |flt z=>obtain⟨t,rfl⟩:=r;rfl
 |ref z=>cases r;rfl
 |ty z=>cases r;rfl
theorem Dj:OpR X (compareOp .Is) (PV false):=by intro sV s σ H x y v u Q I rx ry h;obtain⟨rfl,q⟩:=h;cases ry;refine is_none_gen ?_;rw[HH rx];exact⟨.bl _,H,I,rfl,q⟩
theorem zA{H0 H:Hp}{x:V}{d:Dat}(r:j_ H0 H x d):decide (x=V.non)=Dm.isN d:=by
 rcases r with r | ⟨a,rfl,w⟩
 ·cases r<;>rfl
 ·cases d with
  |non=>exact T8 w
  |_=>rfl
theorem Dl:OpD (PV false) Dm.xR:=by
 intro H0 H x y dx dy z Q s rx ry e k;unfold Dm.xR at e;split at e
 ·cases e;have hy:=zA ry;have:y=V.non:=of_decide_eq_true (hy.trans rfl);refine⟨this,?_⟩;rw[if_neg (by decide),zA rx];exact k _ H0 H (aQ.refl s) (.bl _)
 ·cases e
theorem PX(ha:DE X a fa)(hb:DE X b fb):DE X (.Compare a [.Is] [b] pos) (Dm.e2 Dm.xR fa fb):=ur Dj Dl ha hb (d8 _)
theorem PY(ha:DE X a fa)(hb:DE X b fb):DT X (.Compare a [.Is] [b] pos) (Dm.tV (Dm.e2 Dm.xR fa fb)):=jJ Dj Dl ha hb (d8 _)
end
section
variable{σ:L2.St}{H:Hp}{Q:VK}{D:Ends}
theorem nq{α:Type}(l:List α)(i:Nat):l.eraseIdx i=l.take i++l.drop (i+1):=List.eraseIdx_eq_take_drop_succ l i
theorem xS{H0:Hp}{vs:List V}{ds:List Dat}(i:Nat)(r:aD H0 vs ds):aD H0 (vs.eraseIdx i) (ds.eraseIdx i):=by rw[nq,nq];exact(r.take i).append (r.drop (i+1))
theorem HJ{K:Dp}{i:Nat}{f:FE}(h:tD (Dm.ku i f) σ H Q):tBM K "list" Cp (mz i) (tDA [f]) σ H Q:=by
 obtain⟨H0,ρ,x,ρ',st,e,k⟩:=h;unfold Dm.ku at e;split at e
 case h_2=>cases e
 rename_i ds0 h0;obtain⟨a0,q0,n0,w0⟩:=st.ow i _ h0;refine⟨_,q0,?_⟩;obtain⟨xs0,y0,_⟩:=w0;refine⟨.inl ⟨rfl,xs0,.inl (.inl y0)⟩,?_⟩;split at e
 case h_2=>cases e
 rename_i j ρ1 e1;split at e
 case h_2=>cases e
 rename_i ds h2;split at e
 case isFalse=>cases e
 rename_i hb;split at e
 case h_2=>cases e
 rename_i d hd;cases e;refine⟨H0,ρ,[.val (.int j)],ρ1,st,by unfold Dm.eAs;rw[e1];rfl,fun vs H0' H' t r=>?_⟩;cases r with
 |cons r rr=>
  cases rr;cases Rep.isInt r;obtain⟨a,q,n,w⟩:=t.st.ow i _ h2;rw[q0]at q;cases q;obtain⟨xs,y,rs⟩:=w;obtain⟨v,hv,rv⟩:=rs.get hd;have En:j.toNat<xs.length:=(S7.mp hv).1;have hB:Dm.BIG=1000000000:=rfl;refine⟨a0,xs,j,j.toNat,v,rfl,rfl,y,by lia,by lia,?_,hv,?_⟩
  ·unfold seqIndex?;simp only[show ¬j<0 by lia,if_false];rw[if_pos (by rw[decide_eq_true (show 0<=j by lia),decide_eq_true (show j<(xs.length:Int) by lia)];rfl)]
  have ow:ao σ ρ1 a0:=⟨i,_,h2,q0⟩
  have hi:i<ρ1.length:=(S7.mp h2).1;refine k v H0' _ (t.trans ⟨t.st.write h2 q0 ⟨_,aq,xS _ rs⟩,Stp.write ow,fun b z=>cu h2 z,fun j' z=>trivial⟩) rv
end
section
variable{X:Cx}{e:Expr}{f:FE}{pos:Pos}
theorem HK(i:Nat){x:Str}{px ap cp:Pos}(he:DE X e f)(hi:X.N[i]?=some x:=by rfl)(hv:Vis X.env.scope x:=by trivial)(hd:(x == ("__debug__" : Str))=false:=by decide)
  (J2:(x == ("__classdict__" : Str))=false:=by decide) (Qp:attributeBase (.Name x px) "pop" X.env (eval (.Name x px) X.env)=eval (.Name x px) X.env:=by rfl)
  (hfew:((backTo cp (starEach [e] X.env)).all (fun x=>!x.1)&&(backToKw cp (keywordEach [] X.env)).all (fun x=>x.1.isSome)
   && decide ([e].length+([]:List Keyword).length+(if ([]:List Keyword).isEmpty then 0 else 1)<30))=true:=by rfl)
  (Nb:(ap.endLine == cp.line)=true:=by rfl) (hs:starEach [e] X.env=(false,eval e X.env)::starEach [] X.env:=by rfl) (Ij:(backTo cp (starEach [] X.env)).any (·.1)=false:=by rfl) :
  DE X (.Call (.Attribute (.Name x px) "pop" ap) [e] [] cp) (Dm.ku i f):=
 PE.weak (zb Vt PySem.F.slot_list_pop PySem.F.type_list_pop Cq (eZ hi hv hd J2) (aa he ah hs) Qp hfew Nb hs Ij) fun _ _ _=>HJ
end
end Br
namespace L2
open PySem PySem.Spec PyProof.Rows
section
variable{P:Program}{w:World}{K:Dp}{mg:Str->Option Value}{base:Heap}{N:List Str}{qual:Str}{scope:Scope}{f:Addr}{cd:Value}{A:Around}{outer:List Env}{s₀:Shared}{H₀:Hp}{E:XK}{C:Addr}
 {sV:List (Addr×Obj)} {σ:St} {H:Hp} {s:Shared}
end
section
variable{X:Cx}{sV:List (Addr×Obj)}{σ:L2.St}{H:Hp}{s:Shared}
theorem Inv.PZ(I:Inv X sV σ H s){ea:Addr}{o:HO}(n:H ea=none)(hok:aU X.prog X.w (upd H ea o) s.heap ea o)(n0:X.s₀.heap.get? ea=none)(nl:ea≠X.env.locals)(nc:∀x c,X.env.cells.lookup x=some c->c≠ea)
  (np:∀p∈X.pn++sV,p.1≠ea):Inv X sV σ (upd H ea o) s:=by
 have ne:∀b u,H b=some u->b≠ea:=fun b u e z=>by rw[z,n]at e;cases e
 have n1:∀b u,X.s₀.heap.get? b=some u->b≠ea:=fun b u e z=>by rw[z,n0]at e;cases e
 refine⟨I.ok,I.os,I.bare,⟨I.base.keep,I.base.slot,fun b u e q hx=>?_,I.base.there,fun b xs e=>?_,fun b u v e=>?_,fun b x1 x2 x3 e=>?_⟩,I.loc,I.cell,?_,fun x c e=>?_,fun p hp=>?_,fun b u e=>?_,I.len⟩
 ·rw[aj (n1 b u e)];exact I.base.free b u e q hx
 ·have:=I.base.tups b xs e;rw[aj (ne b _ this)];exact this
 ·have:=I.base.p6 b u v e;rw[aj (ne b _ this)];exact this
 ·have:=I.base.lH b _ _ _ e;rw[aj (ne b _ this)];exact this
 ·rw[aj (Ne.symm nl)];exact I.free
 ·rw[aj (nc x c e)];exact I.fS x c e
 ·obtain⟨e,q,a,b,d⟩:=I.pin p hp;exact⟨e,by rw[aj (np p hp)];exact q,a,b,d⟩
 ·by_cases hb:b=ea
  ·subst hb;rw[aq]at e;cases e;exact hok
  ·rw[aj hb]at e;exact(I.hok b u e).stay (fun c v _ q=>q) (fun c q=>by rw[aj (ne c _ q)];exact q) (fun c _ _ q=>by rw[aj (ne c _ q)];exact q) fun c xs q=>by rw[aj (ne c _ q)];exact q
end
end L2
namespace Br
open PySem PySem.Spec PyProof.Rows L2
structure HL(K:Dp)(x qual:Str)(st:Stmt)(f:Addr)(fd:FuncData):Prop where
 ex:∃(oc:Value) (od:Option Addr) (dV kV doc pm:Value) (an:Option Addr) (cdv ct:Value) (osl:Array (Option Value)),
  fd=TR x qual (aS st) (aO st) (af st) dV kV doc pm an cdv ct/\K.lookup f=some ⟨oc,od,.func fd,osl⟩/\Vk K cdv qual=true
 kp:Ut K (.ref f)=true
section
variable{P:Program}{w:World}{K:Dp}{mg:Str->Option Value}{base:Heap}
theorem HM{x qual:Str}{st:Stmt}{f:Addr}{oc:Value}{od an:Option Addr}{osl:Array (Option Value)}{dV kV doc pm cdv ct:Value}(l:K.lookup f=some ⟨oc,od,.func (TR x qual (aS st) (aO st) (af st) dV kV doc pm an cdv ct),osl⟩)
  (c:Vk K cdv qual=true) (k:Ut K (.ref f)=true):HL K x qual st f (TR x qual (aS st) (aO st) (af st) dV kV doc pm an cdv ct):=⟨⟨oc,od,dV,kV,doc,pm,an,cdv,ct,osl,rfl,l,c⟩,k⟩
end
theorem HN{g:List Dat->Option RV}{c:Int}{vs:List V}{H:Hp}{Q:VK}{E:XK}(h:spD (fun ds=>g (ds++[.int c])) vs H Q E):spD g (vs++[.int c]) H Q E:=by obtain⟨H0,ds,z,s,r,e,k⟩:=h;exact⟨H0,ds++[.int c],z,s,r.append (.cons (.int _) .nil),e,k⟩
section
variable{σ:L2.St}{H:Hp}{Q:VK}
theorem HP{g:List Dat->Option RV}{c:Int}{fs:List FE}{E:XK}(h:tD (Dm.eF (fun ds=>g (ds++[.int c])) fs) σ H Q):mJ (spD g) [.int c] E (tDA fs) σ H Q:=by obtain⟨H0,ρ,xs,ρ',st,e,k⟩:=xD (E:=E) h;refine⟨H0,ρ,xs,ρ',st,e,fun vs H0' H' t r=>?_⟩;have:=k vs H0' H' t r;dsimp only at this;rw[Uu]at this;exact HN this
end
end Br
namespace Dm
noncomputable abbrev FN:=Env->List (List Dat)->Option (Env×List (List Dat))
noncomputable def nNx:FN:=fun ρ r=>some (ρ,r)
noncomputable def Bf(s u:FN):FN:=fun ρ r=>match s ρ r with
 |none=>none
 |some (ρ1,r1)=>u ρ1 r1
noncomputable def nIf(t:FT)(a b:FN):FN:=fun ρ r=>match t ρ with
 |none=>none
 |some (true,ρ1)=>a ρ1 r
 |some (false,ρ1)=>b ρ1 r
noncomputable def xT(i e:FE):FN:=fun ρ r=>match i ρ with
 | some (.val (.int k),ρ1)=>(match ixN r.length k with
  |none=>none
  |some m=>match r[m]? with
   |none=>none
   |some row=>match e ρ1 with
    |none=>none
    |some (x,ρ2)=>match tk ρ2 x with
     |none=>none
     |some (d,ρ3)=>if row.length<SZ then some (ρ3,r.set m (row++[d])) else none)
 |_=>none
noncomputable def k8(bd:FB)(body:FN):List Dat->FN
 |[],ρ,r=>some (ρ,r)
 |d::q,ρ,r=>match bd d ρ with
  |none=>none
  |some ρ1=>match body ρ1 r with
   |none=>none
   |some (ρ2,r2)=>k8 bd body q ρ2 r2
noncomputable def xU(it:FI)(bd:FB)(body:FN):FN:=fun ρ r=>match it ρ with
 |none=>none
 |some (ds,ρ1)=>k8 bd body ds ρ1 r
noncomputable def nMk(bd:FB):List Dat->Env->Option Env
 |[],ρ=>some ρ
 |d::r,ρ=>match bd d ρ with
  |none=>none
  |some ρ1=>nMk bd r ρ1
noncomputable def nt(j:Nat)(it:FI)(own:Nat)(bd:FB)(Qs:FN):FS:=fun ρ=>if j=0 then none else match it ρ with
 |none=>none
 | some (ds,ρ1)=>if ds.length≤SZ then (match nMk bd ds (ρ1++S5 own .un) with
  |none=>none
  |some ρ2=>match Qs ((ρ2.take ρ1.length).set j .un) (S5 ds.length []) with
   |none=>none
   |some (ρ3,r)=>some (.nx (ρ3.set j (.ow (.lst (r.map .lst)))))) else none
noncomputable def kB:List Dat->Option RV
 |[.dct ks _]=>if ks.length<=63 then some (.new (.lst ((bg (fun a b=>decide (a<b)) ks).map .int))) else none
 |_=>none
noncomputable def uH:List Dat->Option RV
 |[.dct ks vs]=>some (.new (.dct ks vs))
 |_=>none
noncomputable def fC:List Int->List Dat->Int->List Int
 |k::ks,_::vs,i=>if k=i then fC ks vs i else k::fC ks vs i
 |_,_,_=>[]
noncomputable def fD:List Int->List Dat->Int->List Dat
 |k::ks,v::vs,i=>if k=i then fD ks vs i else v::fD ks vs i
 |_,_,_=>[]
noncomputable def nu(i:Nat)(e:FE):FE:=fun ρ=>match ρ[i]? with
 | some (.ow (.dct _ _))=>(match e ρ with
  | some (.val (.int k),ρ1)=>(match ρ1[i]? with
   | some (.ow (.dct ks vs))=>(match bH ks vs k with
    |some d=>some (.val d,ρ1.set i (.ow (.dct (fC ks vs k) (fD ks vs k))))
    |none=>none)
   |_=>none)
  |_=>none)
 |_=>none
mutual
noncomputable def bJ:Dat->Bool
 |.tup xs=>f_ xs
 |.lst xs=>f_ xs
 |.dct _ _=>false
 |.exc _=>false
 |_=>true
noncomputable def f_:List Dat->Bool
 |[]=>true
 |x::r=>bJ x&&f_ r
end
noncomputable def tkd(ρ:Env):Val->Option (Dat×Env)
 |.val d=>some (d,ρ)
 |.new d=>some (d,ρ)
 |.slot i=>match ρ[i]? with
  |some (.ow (.dct ks vs))=>some (.dct ks vs,ρ)
  |some (.ow d)=>some (d,ρ.set i (.sh d))
  |some (.sh d)=>some (d,ρ)
  |_=>none
noncomputable def xV(ρ:Env):List Val->Option (List Dat×Env)
 |[]=>some ([],ρ)
 |x::r=>match tkd ρ x with
  |none=>none
  |some (d,ρ1)=>match xV ρ1 r with
   |none=>none
   |some (ds,ρ2)=>some (d::ds,ρ2)
noncomputable def eFd(f:List Dat->Option RV)(as:List FE):FE:=fun ρ=>match eAs as ρ with
 |none=>none
 |some (xs,ρ1)=>match xV ρ1 xs with
  |none=>none
  |some (ds,ρ2)=>match f ds with
   |none=>none
   |some v=>if bJ v.dat then some (v.bG,ρ2) else none
end Dm
namespace Br
open PySem PySem.Spec PyProof.Rows L2
section
variable{H0 H:Hp}{rows:List (List Dat)}{ps:List Addr}{ρs:Dm.Env}{H0s Hs:Hp}{σs:L2.St}{ρ ρ':Dm.Env}{j:Nat}{σ:L2.St}{b:Addr}
def aV(H0 H:Hp):List Addr->List (List Dat)->Prop
 |[],[]=>True
 |p::ps,r::rs=>(∃xs,H p=some (.lst xs)/\aD H0 xs r)/\aV H0 H ps rs
 |_,_=>False
theorem aV.len:∀{ps:List Addr} {rs:List (List Dat)},aV H0 H ps rs->ps.length=rs.length
 |[],[],_=>rfl
 |_::_,_::_,h=>by simp[aV.len h.2]
theorem aV.get:∀{ps:List Addr} {rs:List (List Dat)} {i:Nat} {r:List Dat},aV H0 H ps rs->rs[i]?=some r->∃p xs,ps[i]?=some p/\H p=some (.lst xs)/\aD H0 xs r
 |[],[],_,_,_,e=>by simp at e
 |p::_,_::_,0,_,h,e=>by simp at e;subst e;obtain⟨xs,h1,h2⟩:=h.1;exact⟨p,xs,rfl,h1,h2⟩
 |_::_,_::_,i+1,_,h,e=>by obtain⟨p,xs,h1,h2⟩:=aV.get (i:=i) h.2 (by simpa using e);exact⟨p,xs,by simpa using h1,h2⟩
theorem aV.mono{H0 H H0' H':Hp}:∀{ps:List Addr} {rs:List (List Dat)},aV H0 H ps rs->au H0 H0'->(∀p∈ps,H' p=H p)->aV H0' H' ps rs
 |[],[],_,_,_=>trivial
 |p::ps,r::rs,h,s,k=>by obtain⟨⟨xs,h1,h2⟩,h3⟩:=h;exact⟨⟨xs,by rw[k p gV];exact h1,h2.mono s⟩,aV.mono h3 s fun q hq=>k q (gc _ hq)⟩
theorem aV.set{p:Addr}{xs:List V}{r:List Dat}(w:aD H0 xs r):∀{ps:List Addr} {rs:List (List Dat)} {i:Nat},aV H0 H ps rs->ps.Nodup->ps[i]?=some p->aV H0 (upd H p (.lst xs)) ps (rs.set i r)
 |[],[],_,_,_,e=>by simp at e
 |q::ps,_::rs,0,h,n,e=>by simp at e;subst e;refine⟨⟨xs,aq,w⟩,h.2.mono (au.refl _) fun y hy=>aj fun z=>?_⟩;subst z;exact(TH.mp n).1 hy
 |q::ps,_::rs,i+1,h,n,e=>by
  have e':ps[i]?=some p:=by simpa using e
  obtain⟨⟨ys,h1,h2⟩,h3⟩:=h;obtain⟨n1,n2⟩:=TH.mp n;refine⟨⟨ys,?_,h2⟩,aV.set w h3 n2 e'⟩;rw[aj fun z=>?_]
  ·exact h1
  ·subst z;exact n1 (UZ e')
theorem aV.some:∀{ps:List Addr} {rs:List (List Dat)},aV H0 H ps rs->∀p∈ps,∃o,H p=some o
 |[],[],_,_,h=>by cases h
 |q::ps,_::rs,h,p,hp=>by
  rcases S4.mp hp with rfl | hp
  ·obtain⟨xs,h1,_⟩:=h.1;exact⟨_,h1⟩
  ·exact aV.some h.2 p hp
structure NS(j:Nat)(σs:L2.St)(ρs:Dm.Env)(H0s Hs:Hp)(σ:L2.St)(ρ:Dm.Env)(H0 H:Hp)(rows:List (List Dat)):Prop where
 st:aE H0 H σ ρ
 stp:Stp (ao σs ρs) H0s Hs H0 H
 own:∀a,ao σ ρ a->ao σs ρs a\/Hs a=none
 fx:σ[0]?=σs[0]?
 ex:∃(L:Addr) (ps:List Addr),σ[j]?=some (some (.ref L))/\Hs L=none/\H0 L=none/\¬ao σ ρ L/\H L=some (.lst (ps.map V.ref))/\(L::ps).Nodup/\(∀p∈ps,Hs p=none/\H0 p=none/\¬ao σ ρ p)/\aV H0 H ps rows
theorem NS.est{H0 H H0' H':Hp}(n:NS j σs ρs H0s Hs σ ρ H0 H rows)(t:ESt σ ρ H0 H ρ' H0' H'):NS j σs ρs H0s Hs σ ρ' H0' H' rows:=by
 obtain⟨L,ps,h1,h2,h3,h4,h5,h6,h7,h8⟩:=n.ex;obtain⟨k1,k2,k3⟩:=t.dP h5 h3 h4;refine⟨t.st,n.stp.trans t.stp n.own,fun a z=>n.own a (t.own a z),n.fx,L,ps,h1,h2,k2,k3,k1,h6,fun p hp=>?_,h8.mono t.stp.s0 fun p hp=>?_⟩
 ·obtain⟨q1,q2,q3⟩:=h7 p hp;obtain⟨o,q4⟩:=h8.some p hp;obtain⟨z1,z2,z3⟩:=t.dP q4 q2 q3;exact⟨q1,z2,z3⟩
 ·obtain⟨q1,q2,q3⟩:=h7 p hp;obtain⟨o,q4⟩:=h8.some p hp;obtain⟨z1,z2,z3⟩:=t.dP q4 q2 q3;rw[z1,q4]
theorem NS.bind{σ σ':L2.St}(n:NS j σs ρs H0s Hs σ ρ H0 H rows)(st:aE H0 H σ' ρ')(o:∀a,ao σ' ρ' a->ao σ ρ a)(hj:σ'[j]?=σ[j]?)(h0:σ'[0]?=σ[0]?):NS j σs ρs H0s Hs σ' ρ' H0 H rows:=by obtain⟨L,ps,h1,h2,h3,h4,h5,h6,h7,h8⟩:=n.ex;exact⟨st,n.stp,fun a z=>n.own a (o a z),h0.trans n.fx,L,ps,hj.trans h1,h2,h3,fun z=>h4 (o L z),h5,h6,fun p hp=>⟨(h7 p hp).1,(h7 p hp).2.1,fun z=>(h7 p hp).2.2 (o p z)⟩,h8⟩
noncomputable def uI(H0 H:Hp)(ps:List Addr):Hp:=fun b=>if b∈ps then H b else H0 b
theorem sJ(h:b∈ps):uI H0 H ps b=H b:=by unfold uI;rw[if_pos h]
theorem gb(h:b∉ps):uI H0 H ps b=H0 b:=by unfold uI;rw[if_neg h]
theorem Bg(s:au H0 H):au H0 (uI H0 H ps):=fun b o e=>by
 by_cases q:b∈ps
 ·rw[sJ q];exact s _ _ e
 ·rw[gb q];exact e
theorem Dq(s:au H0 H):au (uI H0 H ps) H:=fun b o e=>by
 by_cases q:b∈ps
 ·rw[sJ q]at e;exact e
 ·rw[gb q]at e;exact s _ _ e
theorem aV.reps{H0 H H1:Hp}:∀{ps:List Addr} {rs:List (List Dat)},aV H0 H ps rs->au H0 H1->(∀p∈ps,H1 p=H p)->aD H1 (ps.map V.ref) (rs.map Dat.lst)
 |[],[],_,_,_=>.nil
 |p::ps,r::rs,h,s,k=>by obtain⟨⟨xs,h1,h2⟩,h3⟩:=h;exact .cons (.lst (.inl ((k p gV).trans h1)) (h2.mono s)) (aV.reps h3 s fun q hq=>k q (gc _ hq))
theorem NS.done{ρ:Dm.Env}(n:NS j σs ρs H0s Hs σ ρ H0 H rows):∃H0',SSt σs ρs H0s Hs σ (ρ.set j (.ow (.lst (rows.map Dat.lst)))) H0' H:=by
 obtain⟨L,ps,h1,h2,h3,h4,h5,h6,h7,h8⟩:=n.ex;obtain⟨n1,n2⟩:=TH.mp h6;have ss:=Bg (ps:=ps) n.st.same;have st:aE (uI H0 H ps) H σ ρ:={
  same:=Dq n.st.same
  len:=n.st.len
  sh:=fun i d h=>by obtain⟨v,z,r⟩:=n.st.sh i d h;exact⟨v,z,r.mono ss⟩
  ow:=fun i d h=>by obtain⟨b,z,q,w⟩:=n.st.ow i d h;have nb:b∉ps:=fun y=>(h7 b y).2.2 ⟨i,d,h,z⟩;exact⟨b,z,by rw[gb nb];exact q,w.mono ss rfl⟩
  dis:=n.st.dis }
 refine⟨uI H0 H ps,st.ko h1 h4 (by rw[gb n1];exact h3) ⟨_,h5,h8.reps ss fun p hp=>sJ hp⟩,⟨n.stp.s0.trans ss,n.stp.s1,fun a o e=>?_,n.stp.s3⟩,fun a z=>?_,n.fx⟩
 ·by_cases q:a∈ps
  ·exact .inl (h7 a q).1
  ·rw[gb q]at e;exact n.stp.s2 a o e
 ·obtain⟨i,d,z1,z2⟩:=z;by_cases q:j=i
  ·subst q;rw[h1]at z2;cases z2;exact .inr h2
  ·rw[HT q]at z1;exact n.own a ⟨i,d,z1,z2⟩
def tDN(j:Nat)(f:Dm.FN):TS:=fun D σ H=>∃σs ρs H0s Hs H0 ρ rows ρ' rows',NS j σs ρs H0s Hs σ ρ H0 H rows/\f ρ rows=some (ρ',rows')/\∀σ' H0' H',NS j σs ρs H0s Hs σ' ρ' H0' H' rows'->au H0 H0'->D.nx σ' H'
end
section
variable{D:Ends}{σ:L2.St}{H:Hp}{j:Nat}
theorem P1(h:tDN j Dm.nNx D σ H):B7 D σ H:=by obtain⟨σs,ρs,H0s,Hs,H0,ρ,rows,ρ',rows',n,e,k⟩:=h;cases e;exact k σ H0 H n (au.refl _)
theorem MC{s u:Dm.FN}(h:tDN j (Dm.Bf s u) D σ H):AG (tDN j s) (tDN j u) D σ H:=by
 obtain⟨σs,ρs,H0s,Hs,H0,ρ,rows,ρ',rows',n,e,k⟩:=h;unfold Dm.Bf at e;split at e
 ·cases e
 rename_i ρ1 r1 e1;exact⟨σs,ρs,H0s,Hs,H0,ρ,rows,ρ1,r1,n,e1,fun σ' H0' H' n' s1=>⟨σs,ρs,H0s,Hs,H0',ρ1,r1,ρ',rows',n',e,fun σ2 H2 Hc n2 s2=>k σ2 H2 Hc n2 (s1.trans s2)⟩⟩
theorem P4{t:FT}{a b:Dm.FN}(h:tDN j (Dm.nIf t a b) D σ H):Li (tDT t) (tDN j a) (tDN j b) D σ H:=by
 obtain⟨σs,ρs,H0s,Hs,H0,ρ,rows,ρ',rows',n,e,k⟩:=h;unfold Dm.nIf at e;split at e
 ·cases e
 ·rename_i ρ1 e1;refine⟨H0,ρ,true,ρ1,n.st,e1,fun H1 Hb t1=>?_⟩;dsimp only;rw[if_pos rfl];exact⟨σs,ρs,H0s,Hs,H1,ρ1,rows,ρ',rows',n.est t1,e,fun σ2 H2 Hc n2 s2=>k σ2 H2 Hc n2 (t1.stp.s0.trans s2)⟩
 ·rename_i ρ1 e1;refine⟨H0,ρ,false,ρ1,n.st,e1,fun H1 Hb t1=>?_⟩;dsimp only;rw[if_neg TQ];exact⟨σs,ρs,H0s,Hs,H1,ρ1,rows,ρ',rows',n.est t1,e,fun σ2 H2 Hc n2 s2=>k σ2 H2 Hc n2 (t1.stp.s0.trans s2)⟩
theorem MD{fi:Dm.FI}{bd:Dm.FB}{g:TG}{body:Dm.FN}{is:List Nat}(hb:BD is g bd)(hj:j∉is)(h:tDN j (Dm.xU fi bd body) D σ H):Lo (tDI fi) g (tDN j body) D σ H:=by
 obtain⟨σs,ρs,H0s,Hs,H0,ρ,rows,ρ',rows',n,e,k⟩:=h;unfold Dm.xU at e;split at e
 ·cases e
 rename_i ys ρ1 e1;refine⟨H0,ρ,ys,ρ1,n.st,e1,fun J H00 Hb t1 jw=>?_⟩;refine ⟨fun i m σ H=>∃ H0 ρ rows,NS j σs ρs H0s Hs σ ρ H0 H rows∧au H00 H0∧m=ys.length-i∧i≤ys.length∧Dm.k8 bd body (ys.drop i) ρ rows=some (ρ',rows'),
  ⟨ys.length,H00,ρ1,rows,n.est t1,au.refl _,by simp,TM _,by simpa using e⟩,?_⟩
 rintro i m σ H ⟨H0,ρ,rows,n,s00,rfl,hi,e⟩;obtain⟨js,jg⟩:=jw H0 H s00 n.st.same;by_cases En:i<ys.length
 ·have hd:ys[i]?=some ys[i]:=by simp[En]
  obtain⟨g1,g2⟩:=jg i ys[i] hd;rw[Vg En]at e;unfold Dm.k8 at e;refine .inr ⟨g1,fun σ' H'=>∃H0 ρ rows,NS j σs ρs H0s Hs σ' ρ H0 H' rows/\au H00 H0/\Dm.k8 bd body (ys.drop (i+1)) ρ rows=some (ρ',rows'),?_,fun x H' y=>?_⟩
  ·rintro σ' H' ⟨H0',ρ2,r2,h1,h2,h3⟩;exact⟨ys.length-(i+1),by lia,H0',ρ2,r2,h1,h2,rfl,En,h3⟩
  ·obtain⟨H0',gr,rx⟩:=g2 x H' y;split at e
   ·cases e
   ·rename_i ρ2 e2;have t2:=ESt.grow n.st gr;have n2:=n.est t2;refine hb H0' H' σ ρ ρ2 x ys[i] _ t2.st rx e2 fun σ2 st2 o2 k2 _ f2=>?_;have n3:=n2.bind st2 o2 (k2 j hj) f2;have s3:au H00 H0':=s00.trans gr.s0;split at e
    ·cases e
    ·rename_i ρ3 r3 e3;refine⟨σs,ρs,H0s,Hs,H0',ρ2,rows,ρ3,r3,n3,e3,fun σ4 H4 Hd n4 s4=>⟨H4,ρ3,r3,n4,s3.trans s4,e⟩⟩
 ·have e':i=ys.length:=by lia
  subst e';rw[Wg]at e;cases e;exact .inl ⟨js _ (PU _),k σ H0 H n (t1.stp.s0.trans s00)⟩
theorem ME{K:Dp}{fi f:FE}(h:tDN j (Dm.xT fi f) D σ H):tX (tBM K "list" r8 (tOp (LH K) (mz j) (tD fi)) (tDA [f])) D σ H:=by
 obtain⟨σs,ρs,H0s,Hs,H0,ρ,rows,ρ',rows',n,e,k⟩:=h;unfold Dm.xT at e;split at e
 case h_2=>cases e
 rename_i z ρ1 e1;split at e
 ·cases e
 rename_i m em;split at e
 ·cases e
 rename_i row er;split at e
 ·cases e
 rename_i x ρ2 e2;split at e
 ·cases e
 rename_i d ρ3 e3;split at e
 case isFalse=>cases e
 rename_i hz;cases e;obtain⟨L,ps0,h1,_⟩:=n.ex;refine⟨_,h1,H0,ρ,_,ρ1,n.st,e1,fun y H1 Hb t1 r1=>?_⟩;have n1:=n.est t1;obtain⟨L',ps,q1,q2,q3,q4,q5,q6,q7,q8⟩:=n1.ex;rw[h1]at q1;cases q1;obtain⟨q,xs,hq,hqx,hqr⟩:=q8.get er;have hqm:q∈ps:=UZ hq;refine⟨L,ps.map V.ref,z,V.ref q,rfl,Rep.isInt r1,.inl (.inl q5),?_,.inl ⟨rfl,xs,.inl (.inl hqx)⟩,?_⟩
 ·show (L2.ixN (ps.map V.ref).length z).bind (fun j=>(ps.map V.ref)[j]?)=_;rw[Dk,q8.len,<- LX,em];show (ps.map V.ref)[m]?=_;rw[TJ,hq];rfl
 refine⟨H1,ρ1,[x],ρ2,n1.st,by unfold Dm.eAs;rw[e2];rfl,fun vs H2 Hc t2 r2=>?_⟩;cases r2 with
 |cons r rr=>
  cases rr;obtain⟨H3,t3,b3,r3,_,_⟩:=take1 t2 (au.refl _) r e3;have n3:=n1.est t3;obtain⟨L',ps',w1,w2,w3,w4,w5,w6,w7,w8⟩:=n3.ex;rw[h1]at w1;cases w1;obtain⟨k1,_,_⟩:=t3.dP q5 q3 q4;rw[k1]at w5;have ep:ps'=ps:=by
   have:ps.map V.ref=ps'.map V.ref:=by injection w5 with z;injection z
   exact((List.map_inj_right fun a b h=>by injection h).mp this).symm
  subst ep;obtain⟨q',ys,hq',hqy,P5⟩:=w8.get er;rw[hq]at hq';cases hq';have nL:L≠q:=fun z=>(TH.mp w6).1 (z▸hqm);refine⟨q,ys,_,rfl,rfl,hqy,by rw[P5.length];exact Tj hz (by decide),?_⟩;obtain⟨z1,z2,z3⟩:=w7 q hqm;refine k σ H3 _ ⟨n3.st.aside z2 z3,n3.stp.aside z1,n3.own,n3.fx,L,ps',h1,w2,w3,w4,by rw[aj nL];exact k1,w6,w7,aV.set (P5.append (.cons r3 .nil)) w8 (TH.mp w6).2 hq⟩ (t1.stp.s0.trans t3.stp.s0)
end
section
variable{bd:Dm.FB}{is:List Nat}{Qs:Dm.FN}{j own:Nat}{ρ:Dm.Env}{fi:Dm.FI}{σ:L2.St}{g:TG}
theorem Dr{own:Nat}{Q:VK}{H00 Hb:Hp}{ρ1 ρ2:Dm.Env}{ds:List Dat}{J:It}(hb:BD is g bd)(hl:∀i∈is,σ.length<=i)
  (st1:aE H00 Hb σ ρ1) (jw:JW J H00 ds) (hsz:ds.length<=Dm.SZ) (e2:Dm.nMk bd ds (ρ1++S5 own .un)=some ρ2) (D:Addr) (hD:Hb D=none)
  (k:∀ H0' H' (ps:List Addr),aE H0' H' σ (ρ2.take ρ1.length)→Stp (ao σ ρ1) H00 Hb H0' H'→(∀ a,ao σ (ρ2.take ρ1.length) a→ao σ ρ1 a)→H' D=some (.lst (ps.map V.ref))→H0' D=none→(D::ps).Nodup→(∀ p∈ps,Hb p=none∧H0' p=none) →
   aV H0' H' ps (S5 ds.length [])->Q (.ref D) H') :
  ∃W:Nat->Nat->L2.St->Hp->Prop,(∃m,W 0 m (σ++S5 own none) (upd Hb D (.lst [])))/\∀i m σ' H',W i m σ' H' ->
  (J.stop i H'∧Q (.ref D) H')∨(J.go i H'∧∀ x H2,J.yld i H' x H2→g x σ' H2 fun σ2 H3=>G6 σ2 H3 fun b H4=>if b=true
   then GS xu σ2 H4 fun y H5=>∃tG,H5 D=some (.lst tG)/\tG.length<sizeLine/\∃m',m'<m/\W (i+1) m' σ2 (upd H5 D (.lst (tG++[y])))
   else ∃m',m'<m/\W (i+1) m' σ2 H4):=by
 have noD:¬ao σ ρ1 D:=st1.b7 hD;refine ⟨fun i m σ' H'=>∃ (H0c:Hp) (ρc:Dm.Env) (ps:List Addr),aE H0c H' σ' ρc∧au H00 H0c∧m=ds.length-i∧i≤ds.length∧Dm.nMk bd (ds.drop i) ρc=some ρ2 ∧
  H' D=some (.lst (ps.map V.ref))/\ps.length=i/\H0c D=none/\(D::ps).Nodup/\(∀p∈ps,Hb p=none/\H0c p=none)/\aV H0c H' ps (S5 i [])/\Stp (ao σ ρ1) H00 Hb H0c H'/\(∀j,j<σ.length->σ'[j]?=σ[j]?)/\(∀a,ao σ' ρc a->ao σ ρ1 a),
  ⟨ds.length,H00,ρ1++S5 own .un,[],(st1.aside (st1.same.free hD) noD).ext own,au.refl _,by simp,TM _,by simpa using e2,aq,rfl,st1.same.free hD,by simp,by simp,trivial,(Stp.refl _ _ _).aside hD,
   fun j hj=>Tn hj,fun a z=>kg st1 z⟩,?_⟩
 rintro i m σ' H' ⟨H0c,ρc,ps,sc,s00,rfl,hi,ec,hDl,Fd,n0,nd,hps,hro,sp,hσ,ho⟩;have nOc:¬ao σ' ρc D:=fun z=>noD (ho D z);have nOp:∀p∈ps,¬ao σ' ρc p:=fun p hp z=>st1.b7 (hps p hp).1 (ho p z);obtain⟨js,jg⟩:=jw H0c H' s00 sc.same;by_cases En:i<ds.length
 ·have hd:ds[i]?=some ds[i]:=by simp[En]
  obtain⟨g1,g2⟩:=jg i ds[i] hd;rw[Vg En]at ec;unfold Dm.nMk at ec;refine .inr ⟨g1,fun y H2 yy=>?_⟩;obtain⟨H0',gr,rx⟩:=g2 y H2 yy;split at ec
  ·cases ec
  rename_i ρ3 e3;have t2:=ESt.grow sc gr;obtain⟨hD2,n02,no2⟩:=t2.dP hDl n0 nOc;refine hb H0' H2 σ' ρc ρ3 y ds[i] _ t2.st rx e3 fun σ3 st3 o3 k3 d3 _=>?_;unfold G6;dsimp only;rw[if_pos rfl];refine⟨TM _,fun p hp=>?_⟩;have hpD:p≠D:=fun z=>by rw[z,hD2]at hp;cases hp
  have noP:¬ao σ3 ρ3 p:=st3.b7 hp;have P6:∀q∈ps,q≠p:=fun q hq z=>by obtain⟨o,h1⟩:=hro.some q hq;have:=gr.s1 q o h1;rw[z,hp]at this;cases this
  refine⟨ps.map V.ref,by rw[aj (Ne.symm hpD)];exact hD2,?_,ds.length-(i+1),by lia,H0',ρ3,ps++[p],?_,s00.trans gr.s0,rfl,En,ec,?_,by simp[Fd],n02,?_,?_,?_,?_,?_,?_⟩
  ·rw[Dk,Fd];unfold Dm.SZ at hsz;exact Tj (Tj En hsz) (by decide)
  ·have no3:¬ao σ3 ρ3 D:=fun z=>no2 (o3 D z);exact(st3.aside (st3.same.free hp) noP).aside n02 no3
  ·rw[aq,Tv];rfl
  ·rw[<- VI];refine UE.mpr ⟨nd,by simp,fun a ha b hb=>?_⟩;rw[Th.mp hb];rcases S4.mp ha with rfl | ha
   ·exact Ne.symm hpD
   ·exact P6 a ha
  ·intro q hq;rcases Tp.mp hq with hq | hq
   ·refine⟨(hps q hq).1,?_⟩;obtain⟨o,h1⟩:=hro.some q hq;exact(t2.dP h1 (hps q hq).2 (nOp q hq)).2.1
   ·rw[Th.mp hq];exact⟨(sp.trans t2.stp fun a z=>.inl (ho a z)).gone hp,st3.same.free hp⟩
  ·have base:aV H0' (upd (upd H2 p (.lst [])) D (.lst (ps.map V.ref++[V.ref p]))) ps (S5 i []):=hro.mono gr.s0 fun q hq=>by
    have hqD:q≠D:=fun z=>(TH.mp nd).1 (z▸hq);obtain⟨o,h1⟩:=hro.some q hq;rw[aj hqD,aj (P6 q hq),gr.s1 q o h1,h1]
   have app:∀{H0 H:Hp} {ps:List Addr} {rs:List (List Dat)} {p:Addr},aV H0 H ps rs->H p=some (.lst [])->aV H0 H (ps++[p]) (rs++[[]]):=by
    intro H0 H ps rs p h1 h2
    induction ps generalizing rs with
    |nil=>cases rs with
     |nil=>exact⟨⟨[],h2,.nil⟩,trivial⟩
     |cons _ _=>exact h1.elim
    |cons q ps ih=>cases rs with
     |nil=>exact h1.elim
     |cons r rs=>exact⟨h1.1,ih h1.2⟩
   have:=app base (p:=p) (by rw[aj hpD,aq]);rw[List.replicate_succ'];exact this
  ·exact((sp.trans t2.stp fun a z=>.inl (ho a z)).aside ((sp.trans t2.stp fun a z=>.inl (ho a z)).gone hp)).aside hD
  ·exact fun j hj=>(k3 j fun z=>U7.mpr (hl j z) hj).trans (hσ j hj)
  ·exact fun a z=>ho a (o3 a z)
 ·have e':i=ds.length:=by lia
  subst e';rw[Wg]at ec;cases ec;refine .inl ⟨js _ (PU _),k H0c H' ps ?_ sp ?_ hDl n0 nd hps hro⟩
  all_goals
   have D9:σ.length<=ρ2.length:=by rw[<- sc.len];refine U7.mp fun z=>?_;have q:=hσ σ'.length z;rw[Uc (PU _),Tf z]at q;cases q
   have tk:∀{j:Nat} {c:Dm.Cell},(ρ2.take ρ1.length)[j]?=some c->j<σ.length/\ρ2[j]?=some c:=fun {j c} h=>by
    have hj:j<ρ1.length:=by
     have:=(S7.mp h).1;rw[Uo]at this
     lia
    rw[Vm hj]at h;exact⟨by rw[st1.len];exact hj,h⟩
  ·refine⟨sc.same,?_,fun j d h=>?_,fun j d h=>?_,fun j j' d d' a h1 h2 h3 h4=>?_⟩
   ·rw[Uo,<- st1.len];lia
   ·obtain⟨hj,h⟩:=tk h;obtain⟨v,q,r⟩:=sc.sh j d h;exact⟨v,(hσ j hj).symm.trans q,r⟩
   ·obtain⟨hj,h⟩:=tk h;obtain⟨v,q,r⟩:=sc.ow j d h;exact⟨v,(hσ j hj).symm.trans q,r⟩
   ·obtain⟨hj,h1⟩:=tk h1;obtain⟨hj',h2⟩:=tk h2;exact sc.dis j j' d d' a h1 h2 ((hσ j hj).trans h3) ((hσ j' hj').trans h4)
  ·intro a ⟨j,d,h1,h2⟩;obtain⟨hj,h1⟩:=tk h1;exact ho a ⟨j,d,h1,(hσ j hj).trans h2⟩
theorem qO{z:Dm.Out}(q:Dm.nt j fi own bd Qs ρ=some z):∃ds ρ1 ρ2 ρ3 r3,j≠0/\fi ρ=some (ds,ρ1)/\ds.length<=Dm.SZ/\Dm.nMk bd ds (ρ1++S5 own .un)=some ρ2 /\
  Qs ((ρ2.take ρ1.length).set j .un) (S5 ds.length [])=some (ρ3,r3)/\z=.nx (ρ3.set j (.ow (.lst (r3.map .lst)))):=by
 unfold Dm.nt at q;split at q
 ·cases q
 rename_i hj0;split at q
 ·cases q
 rename_i ds ρ1 e1;split at q
 case isFalse=>cases q
 rename_i hsz;split at q
 ·cases q
 rename_i ρ2 e2;split at q
 ·cases q
 rename_i ρ3 r3 e3;cases q;exact⟨ds,ρ1,ρ2,ρ3,r3,hj0,e1,hsz,e2,e3,rfl⟩
theorem HQ{s u:FS}{o:Dm.Out}(hs:∀z,s ρ=some z->∃ρ',z=.nx ρ')(e:Dm.aF s u ρ=some o):∃ρ1,s ρ=some (.nx ρ1)/\u ρ1=some o:=by
 cases q:s ρ with
 |none=>unfold Dm.aF at e;rw[q]at e;cases e
 |some z=>obtain⟨ρ1,rfl⟩:=hs z q;unfold Dm.aF at e;rw[q]at e;exact⟨ρ1,rfl,e⟩
theorem MF{H:Hp}{D:Ends}{gs:FS}(hb:BD is g bd)(hl:∀i∈is,σ.length<=i)(hj:j<σ.length)(h:tDS (Dm.aF (Dm.nt j fi own bd Qs) gs) D σ H) :
  AG (AH (tLC (tDI fi) own g G6 (GS xu)) (jq j)) (AG (tDN j Qs) (tDS gs)) D σ H:=by
 obtain⟨H0,ρ,o,st,e,k⟩:=h;obtain⟨ρ9,e9,e⟩:=HQ (fun z q=>by obtain⟨_,_,_,_,_,_,_,_,_,_,z⟩:=qO q;exact⟨_,z⟩) e;obtain⟨ds,ρ1,ρ2,ρ3,r3,hj0,e1,hsz,e2,e3,z9⟩:=qO e9;cases z9;refine⟨H0,ρ,ds,ρ1,st,e1,fun J H00 Hb t1 jw L hL=>Dr (Q:=fun x H1=>jq j x σ H1 (AG (tDN j Qs) (tDS gs) D)) hb hl t1.st jw hsz e2 L hL fun H0' H' ps st' sp' ho' hDl n0 nd hps hro=>?_⟩;have nL:¬ao σ ρ1 L:=t1.st.b7 hL;have om:∀a,ao (σ.set j (some (.ref L))) ((ρ2.take ρ1.length).set j .un) a->ao σ (ρ2.take ρ1.length) a:=fun a ⟨i,d,h1,h2⟩=>by
  rcases aT h1 with⟨_,z⟩ | ⟨hij,h1⟩
  ·cases z
  ·rw[HT (Ne.symm hij)]at h2;exact⟨i,d,h1,h2⟩
 have st2:aE H0' H' (σ.set j (some (.ref L))) ((ρ2.take ρ1.length).set j .un):={
  same:=st'.same
  len:=by rw[T4,T4];exact st'.len
  sh:=fun i d h=>by
   rcases aT h with⟨_,z⟩ | ⟨hij,h⟩
   ·cases z
   ·obtain⟨v,q,r⟩:=st'.sh i d h;exact⟨v,by rw[HT (Ne.symm hij)];exact q,r⟩
  ow:=fun i d h=>by
   rcases aT h with⟨_,z⟩ | ⟨hij,h⟩
   ·cases z
   ·obtain⟨v,q,r⟩:=st'.ow i d h;exact⟨v,by rw[HT (Ne.symm hij)];exact q,r⟩
  dis:=fun i i' d d' a h1 h2 h3 h4=>by
   rcases aT h1 with⟨_,z⟩ | ⟨q1,h1⟩
   ·cases z
   rcases aT h2 with⟨_,z⟩ | ⟨q2,h2⟩
   ·cases z
   rw[HT (Ne.symm q1)]at h3;rw[HT (Ne.symm q2)]at h4;exact st'.dis i i' d d' a h1 h2 h3 h4 }
 have sp:Stp (ao σ ρ) H0 H H0' H':=t1.stp.trans sp' fun a z=>.inl (t1.own a z);have n:NS j σ ρ H0 H (σ.set j (some (.ref L))) ((ρ2.take ρ1.length).set j .un) H0' H' (S5 ds.length []):=
  ⟨st2,sp,fun a z=>.inl (t1.own a (ho' a (om a z))),HT hj0,L,ps,TN hj,t1.stp.gone hL,n0,fun z=>nL (ho' L (om L z)),hDl,nd,fun p hp=>⟨t1.stp.gone (hps p hp).1,(hps p hp).2,fun z=>t1.st.b7 (hps p hp).1 (ho' p (om p z))⟩,hro⟩
 refine⟨σ,ρ,H0,H,H0',_,_,ρ3,r3,n,e3,fun σ4 H4 Hd n4 _=>?_⟩;obtain⟨H5,t5⟩:=n4.done;exact⟨H5,_,o,t5.st,e,k.pre t5⟩
noncomputable abbrev DN(X:Cx)(j:Nat)(st:Stmt)(f:Dm.FN):Prop:=PS X st (tDN j f)
noncomputable abbrev DNs(X:Cx)(j:Nat)(st:List Stmt)(f:Dm.FN):Prop:=PSs X st (tDN j f)
end
section
variable{X:Cx}{st:Stmt}{Bu:List Stmt}{fs gs:Dm.FN}{e c:Expr}{f:FE}{pos:Pos}{j:Nat}
section
variable{is:List Nat}{fi:Dm.FI}{bd:Dm.FB}
theorem P7:DNs X j [] Dm.nNx:=PSs.weak yV fun _ _ _=>P1
theorem MG(h1:DN X j st fs)(h2:DNs X j Bu gs):DNs X j (st::Bu) (Dm.Bf fs gs):=PSs.weak (jo h1 h2) fun _ _ _=>MC
theorem JS(h1:DN X j st fs):DNs X j [st] fs:=yW h1
theorem R8{t:FT}{x y:List Stmt}(ht:DT X c t)(ha:DNs X j x fs)(hb:DNs X j y gs):DN X j (.If c x y pos) (Dm.nIf t fs gs):=PS.weak (Jy ht ha hb) fun _ _ _=>P4
theorem P8{tg it:Expr}{body:List Stmt}(hp:PassesOwn (model X.prog X.w) X.A X.env X.xe)(hc:X.calm=true)(hi:DI X tg it fi)(hg:TG' X tg is bd)(hb:DNs X j body fs)(hj:decide (j∈is)=false:=by rfl)
  (hs:∀x,foldedSetIterable it X.env x=pure x:=by intro _;rfl):DN X j (.For tg it body [] pos) (Dm.xU fi bd fs):=by
 obtain⟨g,h1,h2⟩:=hg.ex;exact PS.weak (Ce hp hc hi h1 hb hs) fun _ _ _=>MD h2 (of_decide_eq_false hj)
theorem JT{x:Str}{i:Expr}{fi:FE}{px sp ap cp:Pos}(hi':DE X i fi)(he:DE X e f)(hi:X.N[j]?=some x:=by rfl)(hv:Vis X.env.scope x:=by trivial)(hd:(x == ("__debug__" : Str))=false:=by decide)
  (J2:(x == ("__classdict__" : Str))=false:=by decide) (Fd:rX i:=by intro _ _;rfl) (Qp:attributeBase (.Subscript (.Name x px) i sp) "append" X.env (eval (.Subscript (.Name x px) i sp) X.env)=eval (.Subscript (.Name x px) i sp) X.env:=by rfl)
  (hfew:((backTo cp (starEach [e] X.env)).all (fun x=>!x.1)&&(backToKw cp (keywordEach [] X.env)).all (fun x=>x.1.isSome)
   && decide ([e].length+([]:List Keyword).length+(if ([]:List Keyword).isEmpty then 0 else 1)<30))=true:=by rfl)
  (Nb:(ap.endLine == cp.line)=true:=by rfl) (hs:starEach [e] X.env=(false,eval e X.env)::starEach [] X.env:=by rfl) (Ij:(backTo cp (starEach [] X.env)).any (·.1)=false:=by rfl)
  (hsw:swapsWith (.Call (.Attribute (.Subscript (.Name x px) i sp) "append" ap) [e] [] cp) none pos.line X.env=pure false:=by rfl) :
  DN X j (.Expr (.Call (.Attribute (.Subscript (.Name x px) i sp) "append" ap) [e] [] cp) pos) (Dm.xT fi f):=
 PS.weak (l6 (zb Vt PySem.F.slot_list_append PySem.F.type_list_append j5 (JE za (eZ hi hv hd J2) hi' Fd) (aa he ah hs) Qp hfew Nb hs Ij) hsw) fun _ _ _=>ME
theorem MH(j:Nat)(nm own:List Str){y:Str}{py Qq jM:Pos}{tg iter:Expr}{scope:Scope}{Qs:Dm.FN}{gs:FS}{lst:Stmt}(hN:X.N.Nodup)(hg:TGc X nm scope own tg is bd)(hi:DI X tg iter fi)(hlp:DN X j lst Qs)(hre:DSs X Bu gs)
  (hc:X.calm=true:=by rfl) (hk:scope.kind=.function:=by rfl) (hS:mY X.env.scope X.N nm scope=true:=by rfl) (hl:(is.all fun i=>decide (X.N.length<=i))=true:=by rfl) (hj:X.N[j]?=some y:=by rfl) (hy:Loc X.env.scope y:=by trivial)
  (hsw:swapsWith (.ListComp (.List [] jM) [⟨tg,iter,[],0⟩] scope pos) (some (.Name y py)) Qq.line X.env=pure true:=by rfl) (hs:∀y,foldedSetIterable iter X.env y=pure y:=by intro _;rfl)
  (hf:X.fn y=true\/X.env.scope.names.lookup y=some .local:=by trivial) :
  DSs X (.Assign [.Name y py] (.ListComp (.List [] jM) [⟨tg,iter,[],0⟩] scope pos) Qq::lst::Bu) (Dm.aF (Dm.nt j fi own.length bd Qs) gs):=by
 obtain⟨g,h1,h2⟩:=hg.ex;have h:=jo (fY hN hj hy hc (cX.of hS hk) hi h1 (fun cl C s H fp=>zh) (fun cl C s H fp=>Ck (pos:=jM) mH) hsw hs hf) (jo hlp hre);intro sV s σ H D I q;exact h sV s σ H D I (MF h2 (fun i hi=>by rw[I.len];exact uz hl i hi) (by rw[I.len];exact(S7.mp hj).1) q)
end
end
theorem zB{H0:Hp}(i:Int):∀{kvs:List (Key×V)} {ks:List Int} {ds:List Dat},kvs.map (·.1)=ks.map TU->aD H0 (kvs.map (·.2)) ds ->
  (kT kvs (TU i)).map (·.1)=(Dm.fC ks ds i).map TU/\aD H0 ((kT kvs (TU i)).map (·.2)) (Dm.fD ks ds i)
 |[],[],ds,_,r=>by cases r;exact⟨rfl,.nil⟩
 |[],_::_,_,e,_=>by cases e
 |_::_,[],_,e,_=>by cases e
 |(k,v)::kvs,k'::ks,ds,e,r=>by
  rw[eg,eg]at e;injection e with e1 e2
  cases r with
  |cons h t=>
   obtain⟨i1,i2⟩:=zB i e2 t;unfold kT at i1 i2 ⊢;dsimp only at e1;subst e1;by_cases q:k'=i
   ·subst q;rw[Ur (by simp),Dm.fC,if_pos rfl,Dm.fD,if_pos rfl];exact⟨i1,i2⟩
   ·have q':¬(TU k':Key)=TU i:=sC q;rw[Us (by simpa using q'),Dm.fC,if_neg q,Dm.fD,if_neg q];exact⟨by rw[eg,eg,i1],by rw[eg];exact .cons h i2⟩
section
variable{σ:L2.St}{H:Hp}{Q:VK}
theorem MI{i:Nat}{f:FE}(h:tD (Dm.nu i f) σ H Q):Cz (mz i) (tD f) σ H Q:=by
 obtain⟨H0,ρ,x,ρ',st,e,k⟩:=h;unfold Dm.nu at e;split at e
 case h_2=>cases e
 rename_i ks0 vs0 h0;split at e
 case h_2=>cases e
 rename_i m ρ1 e1;split at e
 case h_2=>cases e
 rename_i ks vs h1;split at e
 case h_2=>cases e
 rename_i d hl;cases e;obtain⟨a0,q0,n0,Mv,y0,_⟩:=st.ow i _ h0;refine⟨_,q0,a0,rfl,.inl ⟨Mv,.inl y0⟩,H0,ρ,_,ρ1,st,e1,fun u H1 Hb t1 r1=>?_⟩;have hu:=Rep.isInt r1;subst hu;obtain⟨a,q,n,w⟩:=t1.st.ow i _ h1;rw[q0]at q;cases q;obtain⟨kvs,y,ek,rs⟩:=w;rcases gH m ek rs with⟨d',v,l1,l2,r⟩ | ⟨l1,_⟩
 ·rw[hl]at l1;cases l1;obtain⟨p1,p2⟩:=zB m ek rs;have ow:ao σ ρ1 a0:=⟨i,_,h1,q0⟩
  have hil:i<ρ1.length:=(S7.mp h1).1;refine⟨kvs,TU m,v,y,rfl,l2,k v H1 _ ⟨t1.st.write h1 q0 ⟨_,aq,p1,p2⟩,t1.stp.trans (Stp.write ow) fun b z=>.inl (t1.own b z),fun b z=>t1.own b (cu h1 z),fun j z=>trivial⟩ r⟩
 ·rw[hl]at l1;cases l1
end
section
variable{vs:List Dat}{ρ ρ':Dm.Env}{ks:List Int}{x:Dm.Val}{d:Dat}{H H':Hp}{i:Nat}{X:Cx}
theorem xW:dM X (.type "dict") (fun xs H Q=>∃a kvs,xs=[.ref a]/\H a=some (.dK kvs)/\∀p,H p=none->Q (.ref p) (upd H p (.dK kvs))):=by intro sV s σ H xs us Q I r h;obtain⟨a,kvs,rfl,ha,k⟩:=h;obtain⟨u,rfl,rx⟩:=vals1 r;cases rx;exact CC I (.inl ha) fun p s' hp I'=>⟨.ref p,_,I',rfl,k p hp⟩
theorem HR:CallD (fun xs H Q=>∃a kvs,xs=[.ref a]/\H a=some (.dK kvs)/\∀p,H p=none->Q (.ref p) (upd H p (.dK kvs))) Dm.uH:=by
 intro H0 H vs ds z Q s rs e k;unfold Dm.uH at e;split at e
 ·cases e;cases rs with
  |cons r rr=>cases rr;obtain⟨a,kvs,rfl,ha,ek,rs⟩:=dQ s r;refine⟨a,kvs,rfl,ha,fun p hp=>k _ _ _ (aQ.lQ s hp) ⟨p,rfl,hp,s.free hp,kvs,aq,ek,rs⟩⟩
 ·cases e
theorem nv:∀(its:List Value) (ns:List Int),its.length=ns.length->(∀(i:Nat) (v:Value),its[i]?=some v->∃n,ns[i]?=some n/\∃t,v=Vj n t)->IntsAre its ns
 |[],[],_,_=>.nil
 |[],_::_,h,_=>by cases h
 |_::_,[],h,_=>by cases h
 |v::its,n::ns,h,k=>by
  obtain⟨m,h1,t,h2⟩:=k 0 v rfl;simp at h1;subst h1;subst h2;exact .cons n t (nv its ns (by simpa using h) fun i v e=>by obtain⟨m,q1,q2⟩:=k (i+1) v (by simpa using e);exact⟨m,by simpa using q1,q2⟩)
theorem zC:∀{kvs:List (Key×V)} {vs:List (Key×Value)},KV kvs vs->vs.map (·.1)=kvs.map (·.1)
 |_,_,.nil=>rfl
 |_,_,.cons h t=>by rw[eg,eg,zC t,h.1]
theorem kC:∀{its:List Value} {ns:List Int},IntsAre its ns->Vals (ns.map V.int) its
 |_,_,.nil=>.nil
 |_,_,.cons n t h=>.cons ⟨t,rfl⟩ (kC h)
def Dt:List V->Hp->VK->Prop:=fun xs H Q=>∃(p:Addr) (kvs:List (Key×V)) (ns:List Int),xs=[.ref p]/\H p=some (.dK kvs)/\kvs.map (·.1)=ns.map TU/\ns.length<=63 /\
 ∀(ms:List Int) (l:Addr),ms.Perm ns->ms.Pairwise (·<=·)->H l=none->Q (.ref l) (upd H l (.lst (ms.map V.int)))
theorem xX(hc:X.calm=true):dM X (.builtin "sorted") Dt:=by
 intro sV s σ H xs us Q I r h;obtain⟨p,kvs,ns,rfl,hq,ek,hl,k⟩:=h;obtain⟨u,rfl,rx⟩:=vals1 r;cases rx;obtain⟨z,hd,vs,rel,dd⟩:=zc I.hok hq;obtain⟨ep,hat⟩:=dd.dictAt;have D9:vs.length=ns.length:=by
  rw[<- rel.length];have:=congrArg List.length ek
  simpa using this
 have hns:vs.length<=sizeLine:=by rw[<- rel.length];exact z
 refine Calls.call_function_entry kind_sorted plain_sorted entry_sorted (args_sorted1 _) ?_;unfold Builtin.«sorted»;refine wpAny_bind (m:=checkCount "sorted" 1 1 _) (wpAny_pure ?_);refine wpAny_bind (PySem.W.kdu_collect (A:=X.A.in1) (PySem.W.kdl_dict (knd:=a_ X.prog X.w) (kvs:=vs) (ep:=ep) hd) (I.ok.hd hc) hat hns fun h' tk tG hk hacc=>?_);have hsz:tG.toList.length=ns.length:=by rw[Te,hacc.1,D9]
 have hI:IntsAre tG.toList ns:=nv _ _ hsz fun i v e=>by
  obtain⟨ky,x,h1,h2⟩:=hacc.2 i v (by rw[<- Up];exact e);have hk1:(vs.map (·.1))[i]?=some ky:=by rw[TJ,h1];rfl
  rw[zC rel,ek,TJ]at hk1;cases q:ns[i]? with
  |none=>rw[q]at hk1;cases hk1
  |some n=>rw[q]at hk1;cases hk1;exact⟨n,rfl,(WU (k:=n) (v:=v) h2)⟩
 have hn:tG.toList.length<=63:=by rw[hsz];exact hl
 refine wpAny_bind (wpAny_newList ?_ (Tq hn (by decide)));have hL0:(h'.push (seqObj "list" tG.toList.toArray 0)).get? h'.objs.size=some (seqObj "list" tG.toList.toArray 0):=To _ rfl;have I1:=I.kept (t':=tk) hk;refine wpAny_bind (wpAny_holding (wpAny_call_entry (s:={ s with heap:=h'.push (seqObj "list" tG.toList.toArray 0),toks:=tk }) slot_list_sort ⟨_,hL0,rfl⟩ entry_list_sort (list_sort_tree hL0 hI (by lia) fun out ms a1 a2 a3=>⟨_,rfl,?_⟩) (args_list_sort _)));obtain⟨c,hc'⟩:=sortedHeap_at (out:=out) hL0;have hz2:(ms.map V.int).length<=sizeLine:=by rw[Dk,a2.length_eq];exact Tq hl (by decide)
 refine wpAny_pure ⟨_,rfl,.ref h'.objs.size,_,I1.laid (t':=tk) (fun b o e=>?_) (PU _) (show aU X.prog X.w _ _ _ (.lst (ms.map V.int)) from ⟨hz2,out.toList,c,kC a1,by simpa using hc'⟩),rfl,k ms _ a2 a3 (I1.hok.fresh (PU _))⟩;have lt:=S9 e;rw[sortedHeap_old (Ti lt) (by rw[size_push'];exact UD lt)];exact Ds _ e
theorem Du:CallD Dt Dm.kB:=by
 intro H0 H vs ds z Q s rs e k;unfold Dm.kB at e;split at e
 ·rename_i ks vs';split at e
  case isFalse=>cases e
  rename_i hl;cases e;cases rs with
  |cons r rr=>
   cases rr;obtain⟨a,kvs,rfl,ha,ek,rs⟩:=dQ s r;refine⟨a,kvs,ks,rfl,ha,ek,hl,fun ms l pm so hp=>?_⟩;have em:ms=Dm.bg (fun a b=>decide (a<b)) ks:=Dm.dX (lt:=fun a b=>decide (a<b)) (fun a b h1 h2=>by simp at h1 h2;lia) (pm.trans (Dm.bA _ ks).symm) (so.imp fun {a b} h=>by simp;lia)
    (Dm.bP (fun a b c h1 h2=>by simp at *;lia) (fun a b h=>by simp at *;lia) ks)
   exact k _ _ _ (aQ.lQ s hp) ⟨l,rfl,hp,s.free hp,_,aq,by rw[<- em];exact qN ms⟩
 ·cases e
theorem MJ(e:Dm.tkd ρ x=some (d,ρ')):Dm.tk ρ x=some (d,ρ')\/∃i ks vs,x=.slot i/\ρ[i]?=some (.ow (.dct ks vs))/\d=.dct ks vs/\ρ'=ρ:=by
 cases x with
 |val d'=>exact .inl e
 |new d'=>exact .inl e
 |slot i=>
  unfold Dm.tkd at e;dsimp only at e;split at e
  ·rename_i ks vs h;cases e;exact .inr ⟨i,ks,vs,rfl,h,rfl,rfl⟩
  ·rename_i d' _ h;left;unfold Dm.tk;dsimp only;rw[h];exact e
  ·rename_i d' h;left;unfold Dm.tk;dsimp only;rw[h];exact e
  ·cases e
theorem Dv(e:Dm.tkd ρ x=some (d,ρ'))(h:ρ[i]?=some (.ow (.dct ks vs))):ρ'[i]?=some (.ow (.dct ks vs)):=by
 cases x with
 |val d'=>cases e;exact h
 |new d'=>cases e;exact h
 |slot j=>
  unfold Dm.tkd at e;dsimp only at e;split at e
  ·cases e;exact h
  ·rename_i d' hn hj;cases e;by_cases q:j=i
   ·subst q;rw[h]at hj;cases hj;exact absurd rfl (hn ks vs)
   ·rw[HT q];exact h
  ·cases e;exact h
  ·cases e
theorem qP:∀{xs:List Dm.Val} {ρ ρ':Dm.Env} {ds:List Dat},Dm.xV ρ xs=some (ds,ρ')->ρ[i]?=some (.ow (.dct ks vs))->ρ'[i]?=some (.ow (.dct ks vs))
 |[],_,_,_,e,h=>by cases e;exact h
 |x::xs,ρ,ρ',ds,e,h=>by
  unfold Dm.xV at e;split at e
  ·cases e
  rename_i d ρ1 e1;split at e
  ·cases e
  rename_i ds' ρ2 e2;cases e;exact qP e2 (Dv e1 h)
def R9(H0:Hp)(σ:L2.St)(ρ:Dm.Env)(v:V)(d:Dat):Prop:=Rep H0 v d\/∃(i:Nat) (b:Addr) (ks:List Int) (vs:List Dat),d=.dct ks vs/\v=.ref b/\ρ[i]?=some (.ow (.dct ks vs))/\σ[i]?=some (some (.ref b))
inductive uJ(H0:Hp)(σ:L2.St)(ρ:Dm.Env):List V->List Dat->Prop
 |nil:uJ H0 σ ρ [] []
 |cons {v:V} {d:Dat} {vs:List V} {ds:List Dat}:R9 H0 σ ρ v d->uJ H0 σ ρ vs ds->uJ H0 σ ρ (v::vs) (d::ds)
theorem xY{Hs H0s H0 H:Hp}{σ:L2.St}{ρs:Dm.Env}:∀{xs:List Dm.Val} {vs:List V} {ρ ρ':Dm.Env} {ds:List Dat} {H0c:Hp},ESt σ ρs H0s Hs ρ H0c H->au H0 H0c->dO Hs H0 H σ ρ vs xs->Dm.xV ρ xs=some (ds,ρ') ->
  ∃mS,ESt σ ρs H0s Hs ρ' mS H/\au H0c mS/\uJ mS σ ρ' vs ds
 |[],_,ρ,ρ',ds,H0c,t,b,r,e=>by cases r;cases e;exact⟨H0c,t,au.refl _,.nil⟩
 |x::xs,_,ρ,ρ',ds,H0c,t,b,r,e=>by
  cases r with
  |cons h r=>
   unfold Dm.xV at e;split at e
   ·cases e
   ·rename_i d ρ1 e1;split at e
    ·cases e
    ·rename_i ds' ρ2 e2;cases e;rcases MJ e1 with e1' | ⟨i,ks,vs,rfl,hi,rfl,rfl⟩
     ·obtain⟨H1,t1,b1,r1,o1,d1⟩:=take1 t b h e1';obtain⟨H2,t2,b2,r2⟩:=xY t1 (b.trans b1) (r.rho o1 d1) e2;exact⟨H2,t2,b1.trans b2,.cons (.inl (r1.mono b2)) r2⟩
     ·obtain⟨H2,t2,b2,r2⟩:=xY t b r e2;obtain⟨q,_⟩:=h;obtain⟨a,z,_⟩:=t.st.ow i _ hi;rw[q]at z;cases z;exact⟨H2,t2,b2,.cons (.inr ⟨i,a,ks,vs,rfl,rfl,qP e2 hi,q⟩) r2⟩
mutual
theorem Rep.noD(hk:∀a o,H a=some o->H' a=some o\/∃kvs,o=.dK kvs):∀{v:V} {d:Dat},Rep H v d->Dm.bJ d=true->Rep H' v d
 |_,_,.non,_=>.non
 |_,_,.bl b,_=>.bl b
 |_,_,.int i,_=>.int i
 |_,_,.str x,_=>.str x
 | _,_,.tup h r,n=>.tup (by
   rcases hk _ _ h with z | ⟨_,z⟩
   ·exact z
   ·cases z) (aD.noD hk r (by unfold Dm.bJ at n;exact n))
 | _,_,.lst h r,n=>.lst (by
   rcases h with h | ⟨o,h⟩
   ·rcases hk _ _ h with z | ⟨_,z⟩
    ·exact .inl z
    ·cases z
   ·rcases hk _ _ h with z | ⟨_,z⟩
    ·exact .inr ⟨o,z⟩
    ·cases z) (aD.noD hk r (by unfold Dm.bJ at n;exact n))
 |_,_,.dct _ _ _,n=>by unfold Dm.bJ at n;cases n
 |_,_,.exc _,n=>by unfold Dm.bJ at n;cases n
 |_,_,.fn a,_=>.fn a
theorem aD.noD(hk:∀a o,H a=some o->H' a=some o\/∃kvs,o=.dK kvs):∀{vs:List V} {ds:List Dat},aD H vs ds->Dm.f_ ds=true->aD H' vs ds
 |_,_,.nil,_=>.nil
 |_,_,.cons h r,n=>by unfold Dm.f_ at n;rw[TY]at n;exact .cons (Rep.noD hk h n.1) (aD.noD hk r n.2)
end
end
open Classical in
theorem Dw{σ:L2.St}{H:Hp}{Q:VK}{f:List Dat->Option RV}{fs:List FE}{E:XK}(h:tD (Dm.eFd f fs) σ H Q):mJ (spD f) [] E (tDA fs) σ H Q:=by
 obtain⟨H0,ρ,x,ρ',st,e,k⟩:=h;unfold Dm.eFd at e;split at e
 ·cases e
 rename_i xs ρ1 e1;split at e
 ·cases e
 rename_i ds ρ2 e2;split at e
 ·cases e
 rename_i z fz;split at e
 case isFalse=>cases e
 rename_i hno;injection e with e
 injection e with ea eb
 subst ea;subst eb;refine⟨H0,ρ,xs,ρ1,st,e1,fun vs H1 Hb t1 r1=>?_⟩;dsimp only;rw[Uu];obtain⟨H2,t2,b2,r2⟩:=xY t1 (au.refl _) r1 e2
 let B:Addr->Prop:=fun b=>∃(i:Nat) (ks:List Int) (vs:List Dat),ρ2[i]?=some (.ow (.dct ks vs))/\σ[i]?=some (some (.ref b))
 have hB:∀b,B b->H2 b=none/\∃kvs,Hb b=some (.dK kvs):=fun b ⟨i,ks,vs,h1,h2⟩=>by obtain⟨a,q,n,kvs,w,_⟩:=t2.st.ow i _ h1;rw[h2]at q;cases q;exact⟨n,kvs,w⟩
 let H2':Hp:=fun b=>if B b then Hb b else H2 b
 have in':∀b,B b->H2' b=Hb b:=fun b h=>if_pos h;have out':∀b,¬B b->H2' b=H2 b:=fun b h=>if_neg h;have s2:au H2 H2':=fun b o e=>by
  by_cases q:B b
  ·rw[(hB b q).1]at e;cases e
  ·rw[out' b q];exact e
 have s2b:au H2' Hb:=fun b o e=>by
  by_cases q:B b
  ·rw[in' b q]at e;exact e
  ·rw[out' b q]at e;exact t2.st.same _ _ e
 have rr:∀{vs:List V} {ds:List Dat},uJ H2 σ ρ2 vs ds->aD H2' vs ds:=fun {vs ds} r=>by
  induction r with
  |nil=>exact .nil
  |cons h _ ih=>
   refine .cons ?_ ih;rcases h with h | ⟨i,b,ks,vs',rfl,rfl,h1,h2⟩
   ·exact h.mono s2
   ·obtain⟨a,q,n,kvs,w,ek,rs⟩:=t2.st.ow i _ h1;rw[h2]at q;cases q;exact .dct (by rw[in' _ ⟨i,ks,vs',h1,h2⟩];exact w) ek (rs.mono s2)
 refine⟨H2',ds,z,s2b,rr r2,fz,fun w H3 Hd g3 r3=>?_⟩
 let H3':Hp:=fun b=>if B b then none else H3 b
 have in3:∀b,B b->H3' b=none:=fun b h=>if_pos h;have Dy:∀b,¬B b->H3' b=H3 b:=fun b h=>if_neg h;have gr:aQ H2 Hb H3' Hd:=⟨fun b o e=>by
   by_cases q:B b
   ·rw[(hB b q).1]at e;cases e
   ·rw[Dy b q];exact g3.s0 _ _ (s2 _ _ e),g3.s1,fun b o e=>by
   by_cases q:B b
   ·rw[in3 b q]at e;cases e
   ·rw[Dy b q]at e;rcases g3.s2 b o e with y | y
    ·exact .inl y
    ·rw[out' b q]at y;exact .inr y,fun b o e=>by
   by_cases q:B b
   ·rw[in3 b q]at e;cases e
   ·rw[Dy b q]at e;exact g3.s3 _ _ e⟩
 have hk:∀a o,H3 a=some o->H3' a=some o\/∃kvs,o=.dK kvs:=fun a o e=>by
  by_cases q:B a
  ·obtain⟨_,kvs,y⟩:=hB a q;have:=g3.s0 a _ ((in' a q).trans y);rw[e]at this;exact .inr ⟨kvs,Option.some.inj this⟩
  ·exact .inl (by rw[Dy a q];exact e)
 have r3':sd Hb H3' Hd w z:=by
  cases z with
  |val d=>exact Rep.noD hk r3 hno
  |new d=>
   obtain⟨a,ea,n,n0,w'⟩:=r3;refine⟨a,ea,n,?_,?_⟩
   ·by_cases q:B a
    ·exact in3 a q
    ·rw[Dy a q];exact n0
   ·cases d with
    |lst ds'=>obtain⟨ys,y1,y2⟩:=w';exact⟨ys,y1,aD.noD hk y2 (by have:Dm.bJ (.lst ds')=true:=hno;unfold Dm.bJ at this;exact this)⟩
    |dct ks ds'=>have:Dm.bJ (.dct ks ds')=true:=hno;unfold Dm.bJ at this;cases this
    |_=>exact w'.elim
 exact k w H3' Hd (t2.trans (.grow t2.st gr)) ((r3'.toV t2.st).early fun a n=>t2.stp.gone n)
section
variable{X:Cx}{e b:Expr}{es:List Expr}{fs:List FE}{fb:FE}{p pos:Pos}
theorem nA{k:Nat}{F:Addr}{fd:FuncData}{ps:List Str}{g:List Dat->Option RV}{x:Str}(G:aR X.prog X.w X.K X.mg X.base CX0 k F fd ps (spD g))(hr:aX k X.A)(hg:Gl X x)(hm:X.mg x=some (.ref F))(hk:Ut X.K (.ref F)=true)(hb:Binds X.K fd ps [])
  (ha:DA X (e::es) fs) (Qu:(x == ("__debug__" : Str))=false:=by decide) (he:starEach (e::es) X.env=(false,eval e X.env)::starEach es X.env:=by rfl) (Fd:(backTo pos (starEach es X.env)).any (·.1)=false:=by rfl) :
  DE X (.Call (.Name x p) (e::es) [] pos) (Dm.eFd g fs):=PE.weak (l7 G hr hg hm hk hb .nil (ua (X:=X)) ha Qu he Fd) fun _ _ _=>Dw
theorem MK(hg:Gl X "dict")(hm:X.mg "dict" = none)(ha:DA X [e] fs)(he:starEach [e] X.env=[(false,eval e X.env)]:=by rfl)(Fd:(backTo pos (starEach [] X.env)).any (·.1)=false:=by rfl):DE X (.Call (.Name "dict" p) [e] [] pos) (Dm.eB Dm.uH fs):=Me xW HR (by rfl) hg hm ha (he:=he) (Fd:=Fd)
theorem HS(hc:X.calm=true)(hg:Gl X "sorted")(hm:X.mg "sorted" = none)(ha:DA X [e] fs)(he:starEach [e] X.env=[(false,eval e X.env)]:=by rfl)(Fd:(backTo pos (starEach [] X.env)).any (·.1)=false:=by rfl):DE X (.Call (.Name "sorted" p) [e] [] pos) (Dm.eB Dm.kB fs):=CU (xX hc) Du (by rfl) hg hm ha (he:=he) (Fd:=Fd)
theorem Dz(i:Nat){x:Str}{px MX cpos:Pos}(hb:DE X b fb)(hi:X.N[i]?=some x:=by rfl)(hv:Vis X.env.scope x:=by trivial)(hd:(x == ("__debug__" : Str))=false:=by decide)
  (J2:(x == ("__classdict__" : Str))=false:=by decide) (m:M1 X (.Name x px) "pop" MX b cpos:=by exact⟨rfl,rfl,rfl,rfl⟩):DE X (.Call (.Attribute (.Name x px) "pop" MX) [b] [] cpos) (Dm.nu i fb):=PE.weak (CB (eZ hi hv hd J2) hb m) fun _ _ _=>MI
end
open PySem
variable{C:List Value->Prop}{us:List Value}
theorem len0(h:us.length=0)(c:C []):C us:=by rw[Vz h];exact c
theorem DB{n:Nat}{C:List Value->Prop}{us:List Value}(h:us.length=n+1)(c:∀a us,us.length=n->C (a::us)):C us:=by
 cases us with
 |nil=>cases h
 |cons a us=>exact c a us (by simpa using h)
theorem ML(h:us.length=1)(c:∀a,C [a]):C us:=DB h fun a _ h=>len0 h (C:=fun us=>C (a::us)) (c a)
theorem Dc(h:us.length=2)(c:∀a b,C [a,b]):C us:=DB h fun a _ h=>ML h (C:=fun us=>C (a::us)) (c a)
theorem P9(h:us.length=3)(c:∀a b d,C [a,b,d]):C us:=DB h fun a _ h=>Dc h (C:=fun us=>C (a::us)) (c a)
theorem P_(h:us.length=4)(c:∀a b d e,C [a,b,d,e]):C us:=DB h fun a _ h=>P9 h (C:=fun us=>C (a::us)) (c a)
theorem R_(h:us.length=5)(c:∀a b d e f,C [a,b,d,e,f]):C us:=DB h fun a _ h=>P_ h (C:=fun us=>C (a::us)) (c a)
end Br
namespace L2
open PySem
variable{K:Dp}{x qual:Str}{st:Stmt}{f:Addr}{fd:FuncData}{ps:List Str}
theorem Fun.cK(F:Fun K x qual st f fd)(hp:ps.length=1)(h:∀(kV doc pm:Value) (an:Option Addr) (cdv ct:Value) (a:Value),bindArgs (TR x qual (aS st) (aO st) (af st) .none kV doc pm an cdv ct) ⟨[a],[]⟩=pure (ps.zip [a])):Binds K fd ps []:=
 F.binds fun kV doc pm an cdv ct us hl=>Br.ML (C:=fun us=>bindArgs (TR x qual (aS st) (aO st) (af st) .none kV doc pm an cdv ct) ⟨us,[]⟩=pure (ps.zip us)) (hl.trans hp) (h kV doc pm an cdv ct)
theorem Fun.bE(F:Fun K x qual st f fd)(hp:ps.length=2)(h:∀(kV doc pm:Value) (an:Option Addr) (cdv ct:Value) (a b:Value),bindArgs (TR x qual (aS st) (aO st) (af st) .none kV doc pm an cdv ct) ⟨[a,b],[]⟩=pure (ps.zip [a,b])):Binds K fd ps []:=
 F.binds fun kV doc pm an cdv ct us hl=>Br.Dc (C:=fun us=>bindArgs (TR x qual (aS st) (aO st) (af st) .none kV doc pm an cdv ct) ⟨us,[]⟩=pure (ps.zip us)) (hl.trans hp) (h kV doc pm an cdv ct)
theorem Fun.fE(F:Fun K x qual st f fd)(hp:ps.length=3)(h:∀(kV doc pm:Value) (an:Option Addr) (cdv ct:Value) (a b d:Value),bindArgs (TR x qual (aS st) (aO st) (af st) .none kV doc pm an cdv ct) ⟨[a,b,d],[]⟩=pure (ps.zip [a,b,d])):Binds K fd ps []:=
 F.binds fun kV doc pm an cdv ct us hl=>Br.P9 (C:=fun us=>bindArgs (TR x qual (aS st) (aO st) (af st) .none kV doc pm an cdv ct) ⟨us,[]⟩=pure (ps.zip us)) (hl.trans hp) (h kV doc pm an cdv ct)
theorem Fun.DC(F:Fun K x qual st f fd)(hp:ps.length=4)(h:∀(kV doc pm:Value) (an:Option Addr) (cdv ct:Value) (a b d e:Value),bindArgs (TR x qual (aS st) (aO st) (af st) .none kV doc pm an cdv ct) ⟨[a,b,d,e],[]⟩=pure (ps.zip [a,b,d,e])):Binds K fd ps []:=
 F.binds fun kV doc pm an cdv ct us hl=>Br.P_ (C:=fun us=>bindArgs (TR x qual (aS st) (aO st) (af st) .none kV doc pm an cdv ct) ⟨us,[]⟩=pure (ps.zip us)) (hl.trans hp) (h kV doc pm an cdv ct)
theorem Fun.nB(F:Fun K x qual st f fd)(hp:ps.length=5)(h:∀(kV doc pm:Value) (an:Option Addr) (cdv ct:Value) (a b d e g:Value),bindArgs (TR x qual (aS st) (aO st) (af st) .none kV doc pm an cdv ct) ⟨[a,b,d,e,g],[]⟩=pure (ps.zip [a,b,d,e,g])):Binds K fd ps []:=
 F.binds fun kV doc pm an cdv ct us hl=>Br.R_ (C:=fun us=>bindArgs (TR x qual (aS st) (aO st) (af st) .none kV doc pm an cdv ct) ⟨us,[]⟩=pure (ps.zip us)) (hl.trans hp) (h kV doc pm an cdv ct)
end L2
namespace Dm
noncomputable def eFp(a i:Nat)(f:List Dat->Option RV)(as:List FE):FE:=fun ρ=>match ρ[i]? with
 |some (.sh (.fn b))=>if b=a then eF f as ρ else none
 |_=>none
end Dm
namespace Br
open PySem L2
section
variable{X:Cx}{e:Expr}{es:List Expr}{fs:List FE}{p pos:Pos}
section
variable{ps:List Str}{fd:FuncData}{F:Addr}{x:Str}{k:Nat}{E:XK}
theorem Qa(hg:Gl X x)(hm:X.mg x=some (.ref F))(hd:(x == ("__debug__" : Str))=false:=by decide):DE X (.Name x pos) (Dm.eC (.fn F)):=
 PE.weak (yU (v:=V.ref F) hg hm rfl hd) fun _ _ _=>jC fun _=>.fn F
theorem DF{sp:Sp}{t:TA}{CX}(i:Nat)(G:aR X.prog X.w X.K X.mg X.base CX k F fd ps sp)(hr:aX k X.A)(hN:X.N[i]?=some x)(hv:Vis X.env.scope x)(hk:Ut X.K (.ref F)=true)(hb:Binds X.K fd ps [])(hx:Passes CX X E)
  (ha:PA X (e::es) t) (hd:(x == ("__debug__" : Str))=false) (J2:(x == ("__classdict__" : Str))=false) (he:starEach (e::es) X.env=(false,eval e X.env)::starEach es X.env) (Fd:(backTo pos (starEach es X.env)).any (·.1)=false) :
  PE X (.Call (.Name x p) (e::es) [] pos) (fun σ H Q=>mz i σ H fun v _=>v=V.ref F/\mJ sp [] E t σ H Q):=by
 intro sV s σ H Q I h;obtain⟨v,e1,rfl,h⟩:=h;refine wpAny_Call_Name_kw (thn (eZ hN hv hd J2 sV s σ H (fun v H1=>v=V.ref F/\H1=H) I ⟨_,e1,rfl,rfl⟩) fun u s1 ⟨v,H1,I1,r,q1,q2⟩=>?_);subst q1 q2;cases r;refine PySem.W.callWith_K (h₀:=X.base) I1.ok.mod.kin hk (thn (ha pos sV s1 σ H1 _ I1 h) fun us s2 ⟨vs,H2,I2,r,q⟩=>⟨I2.kIn,?_⟩) he Fd;exact Cm G hr hb .nil hx I2 r q
theorem HU{F i:Nat}{f:List Dat->Option RV}{σ:L2.St}{H:Hp}{Q:VK}(h:tD (Dm.eFp F i f fs) σ H Q):mz i σ H fun v _=>v=V.ref F/\mJ (spD f) [] E (tDA fs) σ H Q:=by
 obtain⟨H0,ρ,x,ρ',st,e,k⟩:=h;unfold Dm.eFp at e;split at e
 ·rename_i b h1;split at e
  ·rename_i hb;subst hb;obtain⟨v,q,r⟩:=st.sh i _ h1;cases r;exact⟨_,q,rfl,xD ⟨H0,ρ,x,ρ',st,e,k⟩⟩
  ·cases e
 ·cases e
theorem zD{g:List Dat->Option RV}(i:Nat){x:Str}(G:aR X.prog X.w X.K X.mg X.base CX0 k F fd ps (spD g))(hr:aX k X.A)(hk:Ut X.K (.ref F)=true)(hb:Binds X.K fd ps [])
  (ha:DA X (e::es) fs) (hN:X.N[i]?=some x:=by rfl) (hv:Vis X.env.scope x:=by trivial) (hd:(x == ("__debug__" : Str))=false:=by decide) (J2:(x == ("__classdict__" : Str))=false:=by decide)
  (he:starEach (e::es) X.env=(false,eval e X.env)::starEach es X.env:=by rfl) (Fd:(backTo pos (starEach es X.env)).any (·.1)=false:=by rfl) :
  DE X (.Call (.Name x p) (e::es) [] pos) (Dm.eFp F i g fs):=PE.weak (DF i G hr hN hv hk hb (ua (X:=X)) ha hd J2 he Fd) fun _ _ _=>HU
end
end
open PySem PySem.Spec PyProof.Rows L2
section
variable{prog:Program}{w:World}{A:Around}{E:Value->Shared->Prop}{s:Shared}
theorem MM{a b:Int}{t u:Tok}{Q:Value->Shared->Prop}(q:Q (.bool (decide (a<b))) s):wpAny (model prog w) A (richCompare .Lt (.int a t) (.int b u)) Q E s:=
 CmpOf.ints_lt (P:=fun i v=>∃t,v=.int (if i=0 then a else b) t) (fun i=>if i=0 then a else b) (fun i v h=>h) 0 1 _ _ s Q E ⟨t,rfl⟩ ⟨u,rfl⟩ q
noncomputable def Qc(a b:Value):Sem PySem.Fin:=do
  let p <- slotArgs "__lt__" 1 { pos:=[a,b] }
  match p with
  |(a,[b])=>do
   if !(<- PySem.isInstance b (.type "tuple")) then return <- ret .notImplemented
   let xs <- Builtin.Tuple.tupleItemsOf a
   let ys <- Builtin.Tuple.tupleItemsOf b
   for (x,y) in xs.toList.zip ys.toList do
    if !(<- eqBool x y) then
     match CmpOp.Lt with
     |.Eq=>return <- ret (.bool false)
     |.NotEq=>return <- ret (.bool true)
     |_=>do
      rule "tuple.compare.by-the-first-pair-that-differs"
      return <- ret (<- richCompare .Lt x y)
   ret (Vs .Lt xs.size ys.size)
  |_=>unsupported "internal:tuple.compare"
theorem MN(a b:Value):Builtin.«tuple.__lt__» { pos:=[a,b] }=Qc a b:=rfl
theorem uK{B:Value×Value->Option PySem.Fin×Unit->Sem (ForInStep (Option PySem.Fin×Unit))}
  (hB:∀(n m:Int) (t u:Tok) (K:ForInStep (Option PySem.Fin×Unit)->Shared->Prop),(if n=m then K (.yield (none,())) s else K (.done (some (.done (.ret (.bool (decide (n<m))))),())) s)->wpAny (model prog w) A (B (.int n t,.int m u) (none,())) K E s)
  {K:Option PySem.Fin×Unit->Shared->Prop}:∀{xs ys:List Value} {ks ms:List Int},IntsAre xs ks->IntsAre ys ms ->
  (∀r,(r=none->Dm.lx ks ms=decide (ks.length<ms.length))->(∀f,r=some f->f=.done (.ret (.bool (Dm.lx ks ms))))->K (r,()) s) ->
  wpAny (model prog w) A (forIn (xs.zip ys) (none,()) B) K E s
 |_,_,_,_,.nil,.nil,k=>wpAny_pure (k none (fun _=>by simp[Dm.lx]) fun _ h=>by cases h)
 |_,_,_,_,.nil,.cons m u h',k=>wpAny_pure (k none (fun _=>by simp[Dm.lx]) fun _ h=>by cases h)
 |_,_,_,_,.cons n t h,.nil,k=>wpAny_pure (k none (fun _=>by simp[Dm.lx]) fun _ h=>by cases h)
 |_,_,_,_,.cons n t h,.cons m u h',k=>by
  rw[Um,W9];refine wpAny_bind (hB n m t u _ ?_);by_cases e:n=m
  ·rw[if_pos e];refine uK hB h h' fun r h1 h2=>k r (fun z=>?_) fun f z=>?_
   ·rw[Dm.lx,if_pos e,h1 z];simp
   ·rw[Dm.lx,if_pos e];exact h2 f z
  ·rw[if_neg e];refine wpAny_pure (k _ (fun z=>by cases z) fun f z=>?_);injection z with z
   rw[<- z,Dm.lx,if_neg e]
theorem MO{a b:Addr}{oa ob:Obj}{xs ys:List Value}{ks ms:List Int}{na nb:Nat}(ha:s.heap.get? a=some oa)(ca:oa.cls=.type "tuple")(da:oa.data=.seq xs.toArray na)(ia:IntsAre xs ks)
  (hb:s.heap.get? b=some ob) (cb:ob.cls=.type "tuple") (db:ob.data=.seq ys.toArray nb) (ib:IntsAre ys ms) (hu:A.units<cLine) {Q:Value->Shared->Prop} (q:Q (.bool (Dm.lx ks ms)) s) :
  wpAny (model prog w) A (richCompare .Lt (.ref a) (.ref b)) Q E s:=by
 have ta:s.TypeIs (.ref a) "tuple" := ⟨oa,ha,ca⟩
 have tb:s.TypeIs (.ref b) "tuple" := ⟨ob,hb,cb⟩
 refine wpAny_richCompare_same_or ta tb F.slot_tuple_lt ?_ (.inr hu);refine wpAny_call_entry F.slot_tuple_lt ta F.entry_tuple_lt ?_;rw[MN];unfold Qc;refine wpAny_bind (wpAny_of_eq (show slotArgs "__lt__" 1 { pos:=[.ref a,.ref b] }=pure (.ref a,[.ref b]) from rfl) ?_);refine wpAny_bind (wpAny_isInstance tb (b:=true) rfl ?_);refine wpAny_bind (wpAny_tupleItemsOf ha da ?_);refine wpAny_bind (wpAny_tupleItemsOf hb db ?_);refine wpAny_bind (uK (fun n m t u K hk=>?_) ia ib fun r h1 h2=>?_)
 ·refine wpAny_bind (wpAny_eqBool_int ?_);by_cases e:n=m
  ·rw[if_pos e]at hk;have:(n == m)=true:=by simpa using e
   rw[this];exact wpAny_pure hk
  ·rw[if_neg e]at hk;have:(n == m)=false:=by simpa using e
   rw[this];refine wpAny_bind (wpAny_rule ?_);refine wpAny_bind (MM ?_);exact wpAny_bind (wpAny_pure (wpAny_pure hk))
 cases r with
 |none=>refine wpAny_pure ⟨_,rfl,(by simp[Vs]),?_⟩;rw[S6,S6,ia.length,ib.length,Vs.eq_3,<- h1 rfl];exact q
 |some f=>refine wpAny_pure ⟨_,h2 f rfl,(by simp),q⟩
end
end Br
namespace Sx
open PySem PySem.SetTable
theorem sL(xs:Array Nat)(j:Nat)(hs:xs.toList.Pairwise (· < ·)):∀(f lo hi:Nat),hi<=xs.size->hi-lo<=f->lo<=hi->(∀i,i<lo->∀v,xs[i]?=some v->v<j)->(∀i,hi<=i->∀v,xs[i]?=some v->j<=v) ->
  (∀i,i<below.go xs j f lo hi->∀v,xs[i]?=some v->v<j)/\(∀i,below.go xs j f lo hi<=i->∀v,xs[i]?=some v->j<=v)/\below.go xs j f lo hi<=xs.size
 |0,lo,hi,h1,h2,h3,a,b=>by
  unfold below.go;have:lo=hi:=by lia
  subst this;exact⟨a,b,h1⟩
 |f+1,lo,hi,h1,h2,h3,a,b=>by
  unfold below.go;have mono:∀i k v w,i<=k->xs[i]?=some v->xs[k]?=some w->v<=w:=fun i k v w hik e1 e2=>by
   rcases UU hik with z | z
   ·subst z;rw[e1]at e2;cases e2;exact PU _
   ·obtain⟨q1,q2⟩:=T9.mp e1;obtain⟨q3,q4⟩:=T9.mp e2;have:=Ul.mp hs i k (by simpa using q1) (by simpa using q3) z;simp only[Vh]at this
    lia
  split
  ·rename_i En;have hm:(lo+hi) / 2<xs.size:=by lia
   dsimp only;rw[Tt,S8 hm,VJ];split
   ·rename_i hv;refine sL xs j hs f _ hi h1 (by lia) (by lia) (fun i hi' v e=>?_) b;have:=mono i ((lo+hi) / 2) v _ (by lia) e (S8 hm)
    lia
   ·rename_i hv;refine sL xs j hs f lo _ (by lia) (by lia) (by lia) a fun i hi' v e=>?_;have:=mono ((lo+hi) / 2) i _ v hi' (S8 hm) e
    lia
  ·have:lo=hi:=by lia
   subst this;exact⟨a,b,h1⟩
theorem dR{xs:Array Nat}(j:Nat)(hs:xs.toList.Pairwise (· < ·)):(∀i,i<below xs j->∀v,xs[i]?=some v->v<j)/\(∀i,below xs j<=i->∀v,xs[i]?=some v->j<=v)/\below xs j<=xs.size:=
 sL xs j hs xs.size 0 xs.size (PU _) (by lia) (TM _) (fun i h=>by lia) fun i h v e=>by rw[Wc h]at e;cases e
theorem kD{xs:Array Nat}{j:Nat}(hs:xs.toList.Pairwise (· < ·)):xs[below xs j]?=some j↔j∈xs.toList:=by
 obtain⟨a,b,c⟩:=dR j hs;constructor
 ·intro h;obtain⟨q1,q2⟩:=T9.mp h;rw[<- q2];exact VT q1
 ·intro h;obtain⟨i,hi,e⟩:=UM h;have hi':i<xs.size:=by simpa using hi
  have e':xs[i]?=some j:=by rw[S8 hi'];simpa using e
  have h1:below xs j<=i:=U7.mp fun z=>by have:=a i z j e';lia
  have hb:below xs j<xs.size:=by lia
  have h2:=b (below xs j) (PU _) _ (S8 hb);rcases UU h1 with z | z
  ·rw[z];exact e'
  ·have:=Ul.mp hs (below xs j) i (by simpa using hb) hi z;simp only[Vh]at this;have e2:xs[i]=j:=by simpa using e
   lia
theorem cS{α:Type}(xs:Array α)(p:Nat)(x:α):(insertAt xs p x).toList=xs.toList.take p++x::xs.toList.drop p:=by unfold insertAt;simp[Array.toList_append,Array.toList_push,Array.toList_extract,Wa]
theorem qf{xs:Array Nat}{j:Nat}(hs:xs.toList.Pairwise (· < ·))(hj:j∉xs.toList):(insertAt xs (below xs j) j).toList.Pairwise (· < ·):=by
 obtain⟨a,b,c⟩:=dR j hs;rw[cS];have l1:∀v∈xs.toList.take (below xs j),v<j:=fun v hv=>by
  obtain⟨i,hi,e⟩:=UM hv;rw[Uo]at hi;rw[List.getElem_take]at e;refine a i (by lia) v ?_;rw[S8 (by rw[Te]at hi;lia)]
  simpa using e
 have l2:∀v∈xs.toList.drop (below xs j),j<v:=fun v hv=>by
  have hm:=Ww hv;obtain⟨i,hi,e⟩:=UM hv;rw[Vo,Te]at hi;rw[List.getElem_drop]at e;have:=b (below xs j+i) (by lia) v (by rw[S8 (by lia)];simpa using e);rcases UU this with z | z
  ·exact absurd (z▸hm) hj
  ·exact z
 rw[List.pairwise_append];refine⟨hs.sublist (List.take_sublist _ _),?_,fun u hu v hv=>?_⟩
 ·rw[Uv];exact⟨l2,hs.sublist (List.drop_sublist _ _)⟩
 ·rcases S4.mp hv with rfl | hv
  ·exact l1 u hu
  ·exact Xs (l1 u hu) (l2 v hv)
noncomputable def lp(mask:Nat):Nat->Nat×Nat->Nat×Nat
 |0,q=>q
 |m+1,q=>lp mask m (leap mask q.1 q.2)
noncomputable def lc(mask:Nat):Nat->Nat->Nat
 |0,i=>i
 |m+1,i=>lc mask m ((i*5+1) % (mask+1))
theorem zF(mask:Nat):∀m i,lp mask m (i,0)=(lc mask m i,0)
 |0,_=>rfl
 |m+1,i=>by unfold lp lc leap;simp only[Nat.zero_div,Xv];exact zF mask m _
theorem DG(mask:Nat):∀a b q,lp mask (a+b) q=lp mask b (lp mask a q)
 |0,b,q=>by rw[Vn];rfl
 |a+1,b,q=>by rw[Nat.add_right_comm];show lp mask (a+b) (leap mask q.1 q.2)=lp mask b (lp mask a (leap mask q.1 q.2));exact DG mask a b _
theorem DH(mask:Nat):∀m q,(lp mask m q).2=q.2 / 32 ^ m
 |0,q=>by simp[lp]
 |m+1,q=>by show (lp mask m (leap mask q.1 q.2)).2=_;rw[DH mask m];unfold leap;dsimp only;rw[Nat.div_div_eq_div_mul,Xx,Nat.mul_comm]
theorem uL(mask:Nat):∀m q,q.1<=mask->(lp mask m q).1<=mask
 |0,_,h=>h
 |m+1,q,h=>uL mask m _ (by unfold leap;exact Vf (V1 _ (VU mask)))
def Cov(mask:Nat):Prop:=∀i,i<=mask->∀j,j<=mask->∃m,m<=mask/\lc mask m i=j
noncomputable def Qe(mask:Nat):Bool:=(S3 (mask+1)).all fun i=>(S3 (mask+1)).all fun j=>(S3 (mask+1)).any fun m=>lc mask m i == j
theorem DJ{mask:Nat}(h:Qe mask=true):Cov mask:=fun i hi j hj=>by unfold Qe at h;have h1:=Ug.mp h i (Tw.mpr (by lia));have h2:=Ug.mp h1 j (Tw.mpr (by lia));obtain⟨m,hm,e⟩:=U6.mp h2;have:=Tw.mp hm;exact⟨m,by lia,by simpa using e⟩
theorem Sa:Cov 7:=DJ (by decide +kernel)
theorem Qf:Cov 31:=DJ (by decide +kernel)
noncomputable def orb(mask:Nat):Nat->Nat->List Nat
 |0,_=>[]
 |m+1,i=>i::orb mask m ((i*5+1) % (mask+1))
theorem DK(mask:Nat):∀(n i m:Nat),m<n->(orb mask n i)[m]?=some (lc mask m i)
 |0,i,m,h=>by lia
 |n+1,i,0,h=>rfl
 |n+1,i,m+1,h=>by show (orb mask n ((i*5+1) % (mask+1)))[m]?=_;rw[DK mask n _ m (by lia)];rfl
theorem sM(mask:Nat):∀(n i:Nat),(orb mask n i).length=n
 |0,_=>rfl
 |n+1,i=>by show (orb mask n _).length+1=_;rw[sM mask n]
theorem sN(mask:Nat):∀a b i,lc mask (a+b) i=lc mask b (lc mask a i)
 |0,b,i=>by rw[Vn];rfl
 |a+1,b,i=>by rw[Nat.add_right_comm];show lc mask (a+b) _=lc mask b (lc mask a _);exact sN mask a b _
theorem DL{mask:Nat}(h1:((S3 (mask+1)).all fun j=>(orb mask (mask+1) 0).elem j)=true)(h2:lc mask (mask+1) 0=0):Cov mask:=fun i hi j hj=>by
 have look:∀x,x<=mask->∃m,m<=mask/\lc mask m 0=x:=fun x hx=>by have:=Ug.mp h1 x (Tw.mpr (by lia));have:=List.elem_iff.mp this;obtain⟨m,hm,e⟩:=UM this;rw[sM]at hm;have e2:=DK mask (mask+1) 0 m hm;rw[Tf (by rw[sM];exact hm),e]at e2;cases e2;exact⟨m,by lia,rfl⟩
 obtain⟨a,ha,ea⟩:=look i hi;obtain⟨b,hb,eb⟩:=look j hj;by_cases h:a<=b
 ·exact⟨b-a,by lia,by rw[<- ea,<- sN,show a+(b-a)=b by lia];exact eb⟩
 ·exact⟨mask+1+b-a,by lia,by rw[<- ea,<- sN,show a+(mask+1+b-a)=mask+1+b by lia,sN,h2];exact eb⟩
theorem MP:Cov 127:=DL (by decide +kernel) (by decide +kernel)
theorem zG(h:Int):bits h<2 ^ 64:=by
 unfold bits;have h1:(0:Int)<=h % 2 ^ 64:=Int.emod_nonneg _ (by decide);have h2:h % 2 ^ 64<2 ^ 64:=Int.emod_lt_of_pos _ (by decide)
 lia
theorem ER{mask:Nat}(c:Cov mask){i p:Nat}(hi:i<=mask)(hp:p<2 ^ 64){j:Nat}(hj:j<=mask):∃m,m<mask+14/\(lp mask m (i,p)).1=j:=by
 have z:(lp mask 13 (i,p)).2=0:=by rw[DH];exact W3 (Tj hp (by decide))
 have hl:=uL mask 13 (i,p) hi;obtain⟨m,hm,e⟩:=c _ hl j hj;refine⟨13+m,by lia,?_⟩;rw[DG,show lp mask 13 (i,p)=((lp mask 13 (i,p)).1,0) from Prod.ext rfl z,zF];exact e
theorem sub_len{l m:List Nat}(hl:l.Nodup)(h:∀x∈l,x∈m):l.length<=m.length:=by
 induction l generalizing m with
 |nil=>exact TM _
 |cons x l ih=>
  obtain⟨n1,n2⟩:=TH.mp hl;have hx:x∈m:=h x gV;have:=ih (m:=m.erase x) n2 fun y hy=>by rw[List.mem_erase_of_ne (fun z:y=x=>n1 (z▸hy))];exact h y (gc _ hy)
  rw[List.length_erase_of_mem hx]at this;have:=List.length_pos_of_mem hx;simp only[TV]
  lia
theorem room{mask:Nat}{l:List Nat}(h:l.length<=mask):∃j,j<=mask/\j∉l:=by
 refine UW fun z=>?_;have:=sub_len (l:=S3 (mask+1)) (m:=l) List.nodup_range fun x hx=>UW fun q=>z ⟨x,by have:=Tw.mp hx;lia,q⟩;rw[Tu]at this
 lia
theorem zH(j:Nat):has #[] j=false:=by unfold has;simp
structure Good(t:SetTable)(n:Nat):Prop where
 dm:t.dummies=#[]
 pl:t.plain=true
 cv:Cov t.mask
 ris:t.place.toList.Pairwise (· < ·)
 le:∀j∈t.place.toList,j<=t.mask
 sz:t.place.size=n
theorem Good.slot{t:SetTable}{n:Nat}(g:Good t n)(j:Nat):(j∉t.place.toList/\t.slot j=.empty)\/(j∈t.place.toList/\∃i,t.slot j=.live i):=by
 unfold SetTable.slot;by_cases h:j∈t.place.toList
 ·right;refine⟨h,below t.place j,?_⟩;dsimp only;rw[if_pos (by rw[(kD g.ris).mpr h];exact beq_self_eq_true _)]
 ·left;refine⟨h,?_⟩;dsimp only;rw [if_neg (by
   intro z;exact h ((kD g.ris).mp (by simpa using z))),if_neg (by
   rw[g.dm,zH];exact TQ)]
noncomputable def qQ(mask i p:Nat):Probe:={ j:=i,more:=runEnd mask i-i,i:=i,perturb:=p,dummy:=none }
theorem zI{t:SetTable}{h:Int}{f k:Nat}{p:Probe}(q:t.slot p.j=.live k):probe.go t (fun _=>h+1) h (f+1) p=probe.go t (fun _=>h+1) h f (t.advance p):=by
 have nh:(h+1 == h)=false:=by
  rw[beq_eq_false_iff_ne]
  lia
 conv=>lhs;unfold probe.go
 rw[q];dsimp only;rw[nh];rfl
theorem DM{t:SetTable}{h:Int}{f:Nat}{p:Probe}(q:t.slot p.j=.empty):probe.go t (fun _=>h+1) h (f+1) p=some (.empty p.j p.dummy):=by
 conv=>lhs;unfold probe.go
 rw[q]
theorem sF{t:SetTable}{n:Nat}(g:Good t n){h:Int}{i p:Nat}:∀(d f j:Nat),j+d<=t.mask->d<f -> 
  (∃j',probe.go t (fun _=>h+1) h f { j:=j,more:=d,i:=i,perturb:=p,dummy:=none }=some (.empty j' none)/\j'<=t.mask/\j'∉t.place.toList) \/
  (probe.go t (fun _=>h+1) h f { j:=j,more:=d,i:=i,perturb:=p,dummy:=none }=probe.go t (fun _=>h+1) h (f-(d+1)) (qQ t.mask (leap t.mask i p).1 (leap t.mask i p).2)/\j∈t.place.toList)
 |d,0,j,h1,h2=>by lia
 |d,f+1,j,h1,h2=>by
  rcases g.slot j with⟨q1,q2⟩ | ⟨q1,k,q2⟩
  ·exact .inl ⟨j,DM (p:={ j:=j,more:=d,i:=i,perturb:=p,dummy:=none }) q2,by lia,q1⟩
  ·rw[zI (p:={ j:=j,more:=d,i:=i,perturb:=p,dummy:=none }) q2];cases d with
   |zero=>exact .inr ⟨rfl,q1⟩
   |succ d=>
    have ea:t.advance { j:=j,more:=d+1,i:=i,perturb:=p,dummy:=none }={ j:=j+1,more:=d,i:=i,perturb:=p,dummy:=none }:=rfl;rw[ea];rcases sF g (h:=h) (i:=i) (p:=p) d f (j+1) (by lia) (by lia) with z | ⟨z,_⟩
    ·exact .inl z
    ·refine .inr ⟨?_,q1⟩;rw[z,show f-(d+1)=f+1-(d+1+1) by lia]
theorem uM{t:SetTable}{n:Nat}(g:Good t n){h:Int}:∀(k f i p:Nat),i<=t.mask->10*k<=f->(∃m,m<k/\(lp t.mask m (i,p)).1∉t.place.toList) -> 
  ∃j',probe.go t (fun _=>h+1) h f (qQ t.mask i p)=some (.empty j' none)/\j'<=t.mask/\j'∉t.place.toList
 |0,f,i,p,_,_,⟨m,hm,_⟩=>by lia
 |k+1,f,i,p,hi,hf,⟨m,hm,e⟩=>by
  have hr:runEnd t.mask i-i<=9/\i+(runEnd t.mask i-i)<=t.mask:=by unfold runEnd;split<;>lia
  rcases sF g (h:=h) (i:=i) (p:=p) (runEnd t.mask i-i) f i hr.2 (by lia) with z | ⟨z,q⟩
  ·exact z
  ·have hm0:m≠0:=fun y=>by subst y;exact e q
   obtain⟨m',rfl⟩:∃m',m=m'+1:=⟨m-1,by lia⟩
   obtain⟨j',a,b,c⟩:=uM g (h:=h) k (f-(runEnd t.mask i-i+1)) (leap t.mask i p).1 (leap t.mask i p).2 (uL t.mask 1 (i,p) hi) (by lia) ⟨m',by lia,e⟩;exact⟨j',z.trans a,b,c⟩
theorem m7{t:SetTable}{n:Nat}(g:Good t n){j:Nat}(h1:j<=t.mask)(h2:j∉t.place.toList):Good (t.put j).1 (n+1)/\(t.put j).1.mask=t.mask/\(t.put j).1.led=t.led:=by
 have hl:(insertAt t.place (below t.place j) j).toList=_:=cS _ _ _;refine⟨⟨?_,g.pl,g.cv,qf g.ris h2,fun i hi=>?_,?_⟩,rfl,rfl⟩
 ·unfold SetTable.put;dsimp only;rw[g.dm];rw[zH];rfl
 ·have hi:i∈(insertAt t.place (below t.place j) j).toList:=hi;rw[hl]at hi;rcases Tp.mp hi with hi | hi
  ·exact g.le i (VL hi)
  ·rcases S4.mp hi with rfl | hi
   ·exact h1
   ·exact g.le i (Ww hi)
 ·show (insertAt t.place (below t.place j) j).size=n+1;rw[<- Te,hl,Tg,TV,Uo,Vo];have:=(dR j g.ris).2.2;have:=g.sz;rw[Te]
  lia
theorem Good.fits{t:SetTable}{n:Nat}(g:Good t n)(hn:n<=t.mask):t.fits n=true:=by unfold SetTable.fits SetTable.fill;rw[g.dm,g.sz];simp;exact hn
theorem gf{α β:Type}{f g:α->Option β}:∀{l:List α},(∀x∈l,f x=g x)->l.filterMap f=l.filterMap g
 |[],_=>rfl
 |x::l,h=>by rw[Ue,Ue,h x gV,gf fun y hy=>h y (gc _ hy)]
theorem DO(f:Nat->Option Nat)(j0 k:Nat):∀(l:List Nat),l.Nodup->j0∈l->f j0=none->(l.filterMap (fun j=>if j=j0 then some k else f j)).Perm (k::l.filterMap f)
 |[],_,h,_=>by cases h
 |x::r,nd,h,h0=>by
  obtain⟨n1,n2⟩:=TH.mp nd;by_cases e:x=j0
  ·subst e;have er:r.filterMap (fun j=>if j=x then some k else f j)=r.filterMap f:=gf fun y hy=>by rw[if_neg fun z:y=x=>n1 (z▸hy)]
   rw[Ue,if_pos rfl,Ue,h0,er]
  ·have hr:j0∈r:=(S4.mp h).resolve_left fun z=>e z.symm;have ih:=DO f j0 k r n2 hr h0;rw[Ue,if_neg e,Ue];cases f x with
   |none=>exact ih
   |some v=>exact(ih.cons v).trans (.swap _ _ _)
noncomputable def ow(owner:Array (Option Nat))(j:Nat):Option Nat:=owner.getD j none
noncomputable def lay(mask:Nat)(owner:Array (Option Nat)):List Nat:=(S3 (mask+1)).filterMap (ow owner)
theorem zJ{mask:Nat}{owner:Array (Option Nat)}(hs:owner.size=mask+1):∀(fuel i p:Nat),i<=mask->(∃m,m<fuel/\owner[(lp mask m (i,p)).1]?=some none)->∃j,layClean.free mask owner fuel i p=some j/\j<=mask/\owner[j]?=some none
 |0,i,p,_,⟨m,hm,_⟩=>by lia
 |fuel+1,i,p,hi,⟨m,hm,e⟩=>by
  have hr:i<=runEnd mask i/\runEnd mask i<=mask:=by unfold runEnd;split<;>lia
  unfold layClean.free;cases hf:(S3 (runEnd mask i+1-i)).find? fun k=>(owner.getD (i+k) (some 0)).isNone with
  |some k=>
   dsimp only;have h1:=Wx hf;have h2:=Tw.mp (Vi hf);refine⟨i+k,rfl,by lia,?_⟩;have En:i+k<owner.size:=by lia
   rw[Tt,S8 En,VJ]at h1;rw[S8 En];exact congrArg some (Option.isNone_iff_eq_none.mp h1)
  |none=>
   dsimp only;have h1:=Va.mp hf 0 (Tw.mpr (by lia));have hm0:m≠0:=fun y=>by subst y;have e:owner[i]?=some none:=e;rw[Xv,Tt,e]at h1;exact h1 rfl
   obtain⟨m',rfl⟩:∃m',m=m'+1:=⟨m-1,by lia⟩
   exact zJ hs fuel (leap mask i p).1 (leap mask i p).2 (uL mask 1 (i,p) hi) ⟨m',by lia,e⟩
theorem DP{mask:Nat}{owner:Array (Option Nat)}(hs:owner.size=mask+1)(hk:(lay mask owner).length<=mask):∃j,j<=mask/\owner[j]?=some none:=by
 obtain ⟨j,h1,h2⟩:=room (mask:=mask) (l:=(S3 (mask+1)).filter fun j=>(ow owner j).isSome) (by
  have:∀l:List Nat,(l.filter fun j=>(ow owner j).isSome).length=(l.filterMap (ow owner)).length:=fun l=>by
   induction l with
   |nil=>rfl
   |cons x l ih=>
    rw[TX,Ue];cases ow owner x with
    |none=>simpa using ih
    |some v=>simpa using ih
  rw[this];exact hk)
 refine⟨j,h1,?_⟩;have En:j<owner.size:=by lia
 rw[S8 En];cases q:owner[j] with
 |none=>rfl
 |some v=>refine absurd (T3.mpr ⟨Tw.mpr (by lia),?_⟩) h2;unfold ow;rw[Tt,S8 En,q];rfl
theorem HV{mask:Nat}{owner:Array (Option Nat)}(hs:owner.size=mask+1){j k:Nat}(hj:j<=mask)(h0:owner[j]?=some none):(lay mask (owner.setIfInBounds j (some k))).Perm (k::lay mask owner):=by
 have:lay mask (owner.setIfInBounds j (some k))=(S3 (mask+1)).filterMap (fun i=>if i=j then some k else ow owner i):=gf fun i hi=>by
  unfold ow;rw[Tt,Tt,VF];by_cases e:i=j
  ·subst e;rw[if_pos rfl,if_pos rfl,if_pos (by lia)];rfl
  ·rw[if_neg fun z=>e z.symm,if_neg e]
 rw[this];exact DO _ _ _ _ List.nodup_range (Tw.mpr (by lia)) (by unfold ow;rw[Tt,h0];rfl)
theorem nC{mask:Nat}(c:Cov mask):∀(hs:List Int) (owner:Array (Option Nat)) (k:Nat),owner.size=mask+1->(lay mask owner).Perm (S3 k)->k+hs.length<=mask ->
  ∃ owner',hs.foldl (fun tG h=>do
   let (owner,k) <- tG
   let j <- layClean.free mask owner (turns mask) (bits h % (mask+1)) (bits h)
   pure (owner.setIfInBounds j (some k),k+1)) (some (owner,k))=some (owner',k+hs.length)/\(lay mask owner').Perm (S3 (k+hs.length))/\owner'.size=mask+1
 |[],owner,k,h1,h2,_=>⟨owner,rfl,h2,h1⟩
 |h::hs,owner,k,h1,h2,h3=>by
  rw[TV]at h3;obtain⟨j0,a,b⟩:=DP h1 (by rw[h2.length_eq,Tu];lia);have hi:bits h % (mask+1)<=mask:=Vf (V1 _ (VU _));obtain⟨m,hm,e⟩:=ER c hi (zG h) a;obtain⟨j,f1,f2,f3⟩:=zJ h1 (turns mask) (bits h % (mask+1)) (bits h) hi ⟨m,by unfold turns;lia,by rw[e];exact b⟩;obtain⟨owner',q1,q2,q3⟩:=nC c hs (owner.setIfInBounds j (some k)) (k+1) (by rw[Array.size_setIfInBounds];exact h1)
   ((HV h1 f2 f3).trans (by rw[Wy];exact(h2.cons k).trans (List.perm_append_singleton _ _).symm)) (by lia)
  refine⟨owner',?_,?_,q3⟩
  ·rw[Vx,TV,show k+(hs.length+1)=k+1+hs.length by lia,<- q1]
   congr 1
   show (layClean.free mask owner (turns mask) (bits h % (mask+1)) (bits h)).bind _=_;rw[f1];rfl
  ·rw[TV,show k+(hs.length+1)=k+1+hs.length by lia];exact q2
theorem HW{mask finger moves:Nat}{led plain:Bool}{hashes:Array Int}(c:Cov mask)(hn:hashes.size<=mask):∃t order,laid mask finger moves led plain hashes=some (t,order)/\t.mask=mask/\t.led=led/\t.plain=plain/\t.dummies=#[] /\
  t.place.toList.Pairwise (· < ·)/\(∀j∈t.place.toList,j<=mask)/\t.place.size=hashes.size/\order.toList.Perm (S3 hashes.size):=by
 obtain ⟨owner,q1,q2,q3⟩:=nC c hashes.toList (Wz (mask+1) none) 0 (by simp) (by
  have:lay mask (Wz (mask+1) none)=[]:=by unfold lay;rw[List.filterMap_eq_nil_iff];intro j hj;unfold ow;rw[Tt,VW];split<;>rfl
  rw[this];exact .refl _) (by rw[Te];lia)
 rw[Vn,Te]at q1 q2;have lc:layClean mask hashes=some owner:=by unfold layClean;rw[<- Array.foldl_toList,q1];rfl
 have e2:((S3 (mask+1)).filterMap fun j=>(owner.getD j none).map (j,·)).map (·.2)=lay mask owner:=by unfold lay;rw[List.map_filterMap];refine gf fun j _=>?_;unfold ow;cases owner.getD j none<;>rfl
 have e1:((S3 (mask+1)).filterMap fun j=>(owner.getD j none).map (j,·)).map (·.1)=(S3 (mask+1)).filter fun j=>(owner.getD j none).isSome:=by rw[List.map_filterMap,<- List.filterMap_eq_filter];refine gf fun j _=>?_;unfold Option.guard;cases q:owner.getD j none<;>simp[q]
 unfold laid;rw[lc];refine⟨_,_,rfl,rfl,rfl,rfl,rfl,?_,fun j hj=>?_,?_,?_⟩
 ·show ((((S3 (mask+1)).filterMap fun j=>(owner.getD j none).map (j,·)).map (·.1)).toArray).toList.Pairwise _;rw[e1];exact(List.pairwise_lt_range).sublist U5
 ·have hj:j∈((((S3 (mask+1)).filterMap fun j=>(owner.getD j none).map (j,·)).map (·.1)).toArray).toList:=hj;rw[e1]at hj;have:=Tw.mp (T3.mp hj).1
  lia
 ·show ((((S3 (mask+1)).filterMap fun j=>(owner.getD j none).map (j,·)).map (·.1)).toArray).size=_;rw[S6,Dk,<- Dk (f:=(·.2)),e2,q2.length_eq,Tu]
 ·show ((((S3 (mask+1)).filterMap fun j=>(owner.getD j none).map (j,·)).map (·.2)).toArray).toList.Perm _;rw[e2];exact q2
open PySem PySem.SetTable PySem.W
theorem bw:Slot "set_iterator" "__next__" "set_iterator.__next__":=
 .of (owner := "set_iterator") (n := "__next__") (by rw[typeLookup_type,builtinLookup_eq_fast];kernel_rfl) (by decide +kernel) (by decide +kernel) (by decide +kernel)
  (by first | exact .inl (by decide +kernel) | exact .inr (by decide +kernel)) (by rw[isSubtype_type];kernel_rfl)
theorem eU:entryFor table "set_iterator.__next__" = some Builtin.«set_iterator.__next__»:=entryFor_of_tree (by kernel_rfl)
theorem k9:Manifest.owners.lookup (String.ofList ['r','o','t','a','r','e','t','i','_','t','e','s'].reverse)=some Manifest.sig_set_iterator:=by kernel_rfl
theorem fO(a:Value):argsOk "set_iterator.__next__" ⟨[a],[]⟩:=by unfold argsOk;rw[signature?_of (id := "set_iterator.__next__") (n:=['_','_','t','x','e','n','_','_']) (o:=['r','o','t','a','r','e','t','i','_','t','e','s']) (by kernel_rfl) k9];kernel_rfl
theorem fP:Slot "set_iterator" "__iter__" "set_iterator.__iter__":=
 .of (owner := "set_iterator") (n := "__iter__") (by rw[typeLookup_type,builtinLookup_eq_fast];kernel_rfl) (by decide +kernel) (by decide +kernel) (by decide +kernel)
  (by first | exact .inl (by decide +kernel) | exact .inr (by decide +kernel)) (by rw[isSubtype_type];kernel_rfl)
theorem kE:entryFor table "set_iterator.__iter__" = some Builtin.«dict_keyiterator.__iter__»:=
 entryFor_alias (id' := "dict_keyiterator.__iter__") (by kernel_rfl) rfl (by decide +kernel) (by kernel_rfl)
theorem lS(a:Value):argsOk "set_iterator.__iter__" ⟨[a],[]⟩:=by unfold argsOk;rw[signature?_of (id := "set_iterator.__iter__") (n:=['_','_','r','e','t','i','_','_']) (o:=['r','o','t','a','r','e','t','i','_','t','e','s']) (by kernel_rfl) k9];kernel_rfl
theorem nD:entryFor table "set.__iter__" = some Builtin.«frozenset.__iter__»:=
 entryFor_alias (id' := "frozenset.__iter__") (by kernel_rfl) rfl (by decide +kernel) (by kernel_rfl)
theorem nE{α:Type}:∀(l:List α) (i:Nat) (h:i<l.length),(l[i]::l.eraseIdx i).Perm l
 |x::l,0,_=>.refl _
 |x::l,i+1,h=>by have ih:=nE l i (by simpa using h);exact(Xi _ _ _).trans (ih.cons x)
theorem zK(f:Nat->Nat){α:Type}:∀(n k:Nat) (left:List α) (out:Array α),left.length=n->(pickOrder.go f n k left out).toList.Perm (out.toList++left)
 |0,k,left,out,h=>by have:left=[]:=Vu.mp h;subst this;unfold pickOrder.go;rw[Uu]
 |n+1,k,left,out,h=>by have En:f k % left.length<left.length:=V1 _ (by lia);unfold pickOrder.go;rw[Tf En];dsimp only;refine(zK f n (k+1) _ _ (by rw[List.length_eraseIdx_of_lt En];lia)).trans ?_;rw[Array.toList_push,VA];refine Xw.append_left _ ?_;exact nE left _ En
theorem Bh(f:Nat->Nat){α:Type}(xs:Array α):(pickOrder f xs).toList.Perm xs.toList:=by
 unfold pickOrder;have:=zK f xs.size 0 xs.toList #[] (by rw[Te])
 simpa using this
def cy(h:Heap)(a:Addr)(es:Array (Int×Value))(ep:Nat)(t:SetTable):Prop:=∃o,h.get? a=some o/\o.ExactSet/\o.data=.set es ep t
theorem cy.typeIs{s:Shared}{a:Addr}{es ep t}(x:cy s.heap a es ep t):s.TypeIs (.ref a) "set" := let ⟨o,ho,he,_⟩:=x;⟨o,ho,he.1⟩
theorem cy.at{h h':Heap}{a:Addr}{es ep t}(x:cy h a es ep t)(e:∀o,h.get? a=some o->h'.get? a=some o):cy h' a es ep t:=let ⟨o,ho,r⟩:=x;⟨o,e _ ho,r⟩
noncomputable def slotAt(bt:Bool)(t:SetTable)(i:Nat):Nat:=if bt||i == 0 then 0 else t.place.getD (i-1) 0+1
def qg(h:Heap)(it a:Addr)(bt:Bool)(t:SetTable)(i n ep:Nat):Prop:=∃o,h.get? it=some o/\o.cls=.type "set_iterator" /\ o.data=.fields #[.int (slotAt bt t i:Nat) 0,.int i 0,.ref a,.int n 0,.int ep 0]
theorem qg.typeIs{s:Shared}{it a:Addr}{bt t i n ep}(x:qg s.heap it a bt t i n ep):s.TypeIs (.ref it) "set_iterator" := let ⟨o,ho,he,_⟩:=x;⟨o,ho,he⟩
theorem qg.at{h h':Heap}{it a:Addr}{bt t i n ep}(x:qg h it a bt t i n ep)(e:∀o,h.get? it=some o->h'.get? it=some o):qg h' it a bt t i n ep:=let ⟨o,ho,r⟩:=x;⟨o,e _ ho,r⟩
noncomputable def cY(w:World)(a:Addr)(es:Array (Int×Value))(ep:Nat):List Value:=
 ((if w.params.followText "set-order" then pickOrder (w.params.setOrder a ep) es else es).toList).map (·.2)
theorem qR(w:World)(a:Addr)(es:Array (Int×Value))(ep:Nat):(cY w a es ep).Perm (es.toList.map (·.2)):=by
 unfold cY;split
 ·exact(Bh _ es).map _
 ·exact .refl _
theorem gg(w:World)(a:Addr)(es:Array (Int×Value))(ep:Nat):(cY w a es ep).length=es.size:=by rw[(qR w a es ep).length_eq,Dk,Te]
theorem xZ{t:SetTable}{n i:Nat}(g:Good t n)(hi:i<n):below t.place (slotAt false t i)=i:=by
 obtain⟨a,b,c⟩:=dR (slotAt false t i) g.ris;have mono:∀i k,i<k->∀v w,t.place[i]?=some v->t.place[k]?=some w->v<w:=fun i k hik v w e1 e2=>by obtain⟨q1,q2⟩:=T9.mp e1;obtain⟨q3,q4⟩:=T9.mp e2;have:=Ul.mp g.ris i k (by simpa using q1) (by simpa using q3) hik;simp only[Vh]at this;omega
 have hz:=g.sz;cases i with
 |zero=>refine UW fun z=>?_;have h0:t.place[0]?=some t.place[0]:=S8 (by omega);have:=a 0 (by omega) _ h0;have e:slotAt false t 0=0:=rfl;rw[e]at this;omega
 |succ i=>
  have hp:t.place[i]?=some t.place[i]:=S8 (by omega);have e:slotAt false t (i+1)=t.place[i]+1:=by show t.place.getD (i+1-1) 0+1=_;rw[WN,Tt,hp];rfl
  rw[e]at a b ⊢;have h1:i<below t.place (t.place[i]+1):=Nat.not_le.mp fun z=>by have:=b i z _ hp;omega
  have h2:below t.place (t.place[i]+1)<=i+1:=U7.mp fun z=>by have hq:t.place[i+1]?=some t.place[i+1]:=S8 (by omega);have:=a (i+1) z _ hq;have:=mono i (i+1) (Wf _) _ _ hp hq;omega
  omega
theorem Bj{t:SetTable}{n:Nat}(g:Good t n):n<=below t.place (slotAt false t n):=by
 obtain⟨a,b,c⟩:=dR (slotAt false t n) g.ris;have hz:=g.sz;cases n with
 |zero=>omega
 |succ i=>
  have hp:t.place[i]?=some t.place[i]:=S8 (by lia);have e:slotAt false t (i+1)=t.place[i]+1:=by show t.place.getD (i+1-1) 0+1=_;rw[WN,Tt,hp];rfl
  rw[e]at a b ⊢;exact Nat.not_le.mp fun z=>by
   have:=b i z _ hp
   lia
section
variable{prog:Program}{w:World}{A:Around}{E:Value->Shared->Prop}{s:Shared}{a it:Addr}{es:Array (Int×Value)}{ep i:Nat}{t:SetTable}
section
variable{Q:Bool->Shared->Prop}
theorem bC(x:cy s.heap a es ep t)(g:Good t es.size)(hm:es.size<=t.mask){Q:(Array (Int×Value)×Nat×SetTable)->Shared->Prop}(h:Q (es,ep,t) s):wpAny (model prog w) A (setState a) Q E s:=by obtain⟨o,ho,_,hd⟩:=x;exact wpAny_setState_of ho hd (g.fits hm) h
theorem kF(h:Q (w.params.followText "set-order") s):wpAny (model prog w) A setsByText Q E s:=by unfold setsByText;exact wpAny_bind (wpAny_askSetting (wpAny_pure h))
theorem uN(x:cy s.heap a es ep t)(g:Good t es.size)(hm:es.size<=t.mask)(h:Q false s):wpAny (model prog w) A (setDrawn a) Q E s:=by
 unfold setDrawn;refine wpAny_bind (bC x g hm ?_);refine wpAny_bind (kF (wpAny_pure ?_));have e:(!(w.params.followText "set-order")&&(!t.plain&&decide (es.size>1)))=false:=by rw[g.pl];simp
 have e':Q (!(w.params.followText "set-order")&&(!t.plain&&decide (es.size>1))) s:=by rw[e];exact h
 exact e'
theorem nF(x:cy s.heap a es ep t)(g:Good t es.size)(hm:es.size<=t.mask)(hl:t.led=!w.params.followText "set-order"){Q:Option (Value×Nat)->Shared->Prop}
  (h:Q ((cY w a es ep)[i]?.map fun v=>(v,slotAt (w.params.followText "set-order") t (i+1))) s) (hi:i<=es.size):wpAny (model prog w) A (setNext a (slotAt (w.params.followText "set-order") t i) i ep) Q E s:=by
 unfold setNext;refine wpAny_bind (bC x g hm ?_);dsimp only;refine wpAny_bind (kF ?_);cases bt:w.params.followText "set-order" with
 |true=>
  rw[bt]at h;rw[if_pos rfl];simp only[bne_self_eq_false,Tc,if_false];refine wpAny_bind (m:=setWalk a) ?_;unfold setWalk;refine wpAny_bind (bC x g hm ?_);dsimp only;refine wpAny_bind (kF ?_);rw[bt,if_pos rfl];refine wpAny_bind (wpAny_askSetting (wpAny_pure (wpAny_pure ?_)));unfold cY at h;rw[bt,if_pos rfl,TJ,Option.map_map]at h;have e:slotAt true t i=0/\slotAt true t (i+1)=0:=⟨rfl,rfl⟩
  rw[e.1];rw[e.2]at h;rw[Up]at h;exact h
 |false=>
  rw[bt]at h hl;rw[if_neg TQ];have dr:(!t.plain&&decide (es.size>1))=false:=by rw[g.pl];rfl
  show wpAny _ _ (if (!t.plain&&decide (es.size>1))=true then _ else _) _ _ _;rw[if_neg (by rw[dr];exact TQ)];show wpAny _ _ ((if (!t.led&&!es.isEmpty)=true then _ else pure ()) >>= _) _ _ _;rw[hl];simp only[Xk,Vd,Xf,Tc,if_false];refine wpAny_bind (wpAny_pure (wpAny_pure ?_));unfold cY at h;rw[bt]at h;simp only[Tc,if_false]at h;rw[TJ]at h;rcases WC i es.size with En | hge
  ·rw[xZ g En,S8 En,S8 (by rw[g.sz];exact En)];rw[Up,S8 En]at h;have e:slotAt false t (i+1)=t.place[i]'(by rw[g.sz];exact En)+1:=by
    show t.place.getD (i+1-1) 0+1=_;rw[WN,Tt,S8 (by rw[g.sz];exact En)];rfl
   rw[e]at h;exact h
  ·have:i=es.size:=by lia
   subst this;rw[Wc (Bj g)];rw[Up,Wc (PU _)]at h;exact h
end
end
section
variable{prog:Program}{w:World}{A:Around}{E:Value->Shared->Prop}{s:Shared}{a it:Addr}{es:Array (Int×Value)}{ep i:Nat}{t:SetTable}
theorem x6(x:cy s.heap a es ep t)(g:Good t es.size)(hm:es.size<=t.mask){Q:Value->Shared->Prop}
  (hQ:Q (.ref s.heap.objs.size) { s with heap:=s.heap.push { cls:=.type "set_iterator",data:=.fields #[.int 0 0,.int 0 0,.ref a,.int es.size 0,.int ep 0] } }):wpAny (model prog w) A (pyIter (.ref a)) Q E s:=by
 obtain⟨o,ho,hex,hd⟩:=id x;refine wpAny_pyIter_slot x.typeIs F.slot_set_iter (wpAny_call_entry F.slot_set_iter x.typeIs nD ?_ (F.args_set_iter_1 _));unfold Builtin.«frozenset.__iter__» Builtin.Frozenset.slot0 slotArgs;simp only[W4,Vd,Tc,↓reduceIte,bind_assoc,Vy,bne_self_eq_false];unfold Builtin.Frozenset.addrOf Builtin.Frozenset.sizeOf;refine wpAny_bind (wpAny_pure ?_)
 try dsimp only
 refine wpAny_bind (wpAny_pure ?_);refine wpAny_bind (wpAny_bind (wpAny_setEntries_of ho hd (g.fits hm) (wpAny_pure ?_)));refine wpAny_bind (uN x g hm ?_);simp only[Tc,if_false];refine wpAny_bind (wpAny_pure ?_);refine wpAny_bind (wpAny_setEpoch_of ho hd (g.fits hm) ?_);refine wpAny_bind (m:=newFields _ _) ?_;unfold newFields;refine wpAny_newObj_type (wpAny_pure ⟨_,rfl,"set_iterator",_,⟨_,To _ rfl,rfl⟩,bw.lookup,?_⟩)
 simpa [rawInt] using hQ
theorem next_item(ER:qg s.heap it a (w.params.followText "set-order") t i es.size ep)(x:cy s.heap a es ep t)(g:Good t es.size)(hm:es.size<=t.mask)(hl:t.led=!w.params.followText "set-order"){v:Value}(hv:(cY w a es ep)[i]?=some v){Q:Option Value->Shared->Prop}
  (hQ:∀h',qg h' it a (w.params.followText "set-order") t (i+1) es.size ep->Vl it s.heap h'->Q (some v) { s with heap:=h' }):wpAny (model prog w) A (pyNext (.ref it)) Q E s:=by
 obtain⟨o,ho,hc,hd⟩:=id ER;obtain⟨oa,hoa,Sb,hda⟩:=id x;have hi:i<es.size:=by rw[<- gg w a es ep];exact(S7.mp hv).1
 unfold pyNext;refine wpAny_bind (wpAny_attempt (wpAny_callSpecial?_slot (name:=VR "__next__") ER.typeIs bw
  (wpAny_call_entry bw ER.typeIs eU ?_ (fO _))))
 unfold Builtin.«set_iterator.__next__» slotArgs;simp only[W4,Vd,Tc,↓reduceIte,bind_assoc,Vy,bne_self_eq_false];refine wpAny_bind (wpAny_pure ?_)
 try dsimp only
 refine wpAny_bind (wpAny_fieldsOf ho hd ?_)
 try dsimp only
 refine wpAny_bind (wpAny_setEntries_of hoa hda (g.fits hm) ?_);simp only[bne_self_eq_false,Tc,if_false];simp only[VD];refine wpAny_bind (nF x g hm hl ?_ (VP hi));rw[hv];dsimp only[Option.map_some];refine wpAny_bind (wpAny_setField ho hd (by simp) ?_);have h1:=Vb (Obj.mapFields (·.setIfInBounds 0 (rawInt (slotAt (w.params.followText "set-order") t (i+1):Nat)))) ho (Obj.isFreed_of_fields (VX hd _));have d1:=VX hd (·.setIfInBounds 0 (rawInt (slotAt (w.params.followText "set-order") t (i+1):Nat)));refine wpAny_bind (wpAny_setField h1 d1 (by simp) ?_);refine wpAny_pure ⟨_,rfl,wpAny_pure (hQ _ ⟨_,Vb _ h1 (Obj.isFreed_of_fields (VX d1 _)),?_,?_⟩ ((Vq ..).trans (Vq ..)))⟩
 ·exact(Obj.cls_mapFields ..).trans ((Obj.cls_mapFields ..).trans hc)
 ·rw[VX d1];simp[rawInt]
theorem next_end(hh:A.handled=none)(ER:qg s.heap it a (w.params.followText "set-order") t es.size es.size ep)(x:cy s.heap a es ep t)(g:Good t es.size)(hm:es.size<=t.mask)(hl:t.led=!w.params.followText "set-order"){Q:Option Value->Shared->Prop}
  (hQ:∀h',Heap.ExtBut it s.heap h'->Q none { s with heap:=h' }):wpAny (model prog w) A (pyNext (.ref it)) Q E s:=by
 obtain⟨o,ho,hc,hd⟩:=id ER;obtain⟨oa,hoa,Sb,hda⟩:=id x;unfold pyNext;refine wpAny_bind (wpAny_attempt (wpAny_callSpecial?_slot (name:=VR "__next__") ER.typeIs bw
  (wpAny_call_entry bw ER.typeIs eU ?_ (fO _))))
 unfold Builtin.«set_iterator.__next__» slotArgs;simp only[W4,Vd,Tc,↓reduceIte,bind_assoc,Vy,bne_self_eq_false];refine wpAny_bind (wpAny_pure ?_)
 try dsimp only
 refine wpAny_bind (wpAny_fieldsOf ho hd ?_)
 try dsimp only
 refine wpAny_bind (wpAny_setEntries_of hoa hda (g.fits hm) ?_);simp only[bne_self_eq_false,Tc,if_false];simp only[VD];refine wpAny_bind (nF x g hm hl ?_ (PU _));rw[Uc (by rw[gg];exact PU _)];dsimp only[Option.map_none];refine wpAny_bind (wpAny_setField ho hd (by simp) (wpAny_bind ?_));unfold newExc newTuple;refine wpAny_bind (wpAny_newObj_type (wpAny_bind (m:=firstArgMember _ _) (wpAny_of_eq (a:=.none) rfl (wpAny_newObj_type ?_ (by size_fits)))) (by size_fits));unfold raiseNew;refine wpAny_bind (wpAny_handled ?_);have hx:A.in1.handled=none:=hh;rw[hx];refine wpAny_bind (wpAny_pure (wpAny_throw (wpAny_bind ?_)));refine wpAny_isInstance (b:=true) (T := "StopIteration") ⟨_,To _ rfl,rfl⟩ isSubtype_stop (wpAny_pure ?_);exact hQ _ (((Vq ..).extBut.push _).push _)
theorem sO{bt:Bool}{n:Nat}(ER:qg s.heap it a bt t i n ep){Q:Value->Shared->Prop}(h:Q (.ref it) s):wpAny (model prog w) A (pyIter (.ref it)) Q E s:=by refine wpAny_pyIter_slot ER.typeIs fP (wpAny_call_entry fP ER.typeIs kE ?_ (lS _));show wpAny _ _ (ret (.ref it)) _ _ s;exact wpAny_pure ⟨_,rfl,"set_iterator",_,ER.typeIs,bw.lookup,h⟩
theorem Bk(hh:A.handled=none)(I a:Addr)(J5:a≠I)(g:Good t es.size)(hm:es.size<=t.mask)(hl:t.led=!w.params.followText "set-order") :
  Walks prog w A I [I,a] [I] es.size (fun i v=>(cY w a es ep)[i]?=some v) (fun i h=>qg h I a (w.params.followText "set-order") t i es.size ep/\cy h a es ep t) where
 sub:=fun b hb=>by simp at hb;simp[hb]
 frame:=fun _ _ _ st hk=>⟨st.1.at fun o e=>hk I (by simp) o e,st.2.at fun o e=>hk a (by simp) o e⟩
 item:=fun i s Q E hi st hQ=>by
  obtain⟨v,hv⟩:∃v,(cY w a es ep)[i]?=some v:=⟨(cY w a es ep)[i]'(by rw[gg];exact hi),by simp[gg,hi]⟩
  refine next_item st.1 st.2 g hm hl hv fun h' Sd hs'=>?_;exact hQ v h' s.toks hv ⟨Sd,st.2.at fun o e=>hs'.extBut a o J5 e⟩ fun b o hb e=>hs'.extBut b o (fun h=>hb (by simp[h])) e
 done:=fun s Q E st hQ=>next_end hh st.1 st.2 g hm hl fun h' he'=>hQ h' s.toks fun b o hb e=>he' b o (fun h=>hb (by simp[h])) e
 self:=fun _ _ _ _ st hQ=>sO st.1 hQ
theorem DQ{r:Addr}{Q:Bool->Shared->Prop}(hT:s.TypeIs (.ref r) "set")(h:Q false s):wpAny (model prog w) A (U8 (.ref r)) Q E s:=by
 unfold U8;refine wpAny_bind (wpAny_specialOf hT PySem.F.slot_set_len.lookup ?_)
 generalize hid:("set.__len__" : String)=id0
 wp_delta
 rw[show splitId id0=some ("set","__len__") from by subst hid;decide +kernel];subst hid;refine wpAny_bind (wpAny_isInstance (T := "set") (b:=true) hT (by rw[isSubtype_type];kernel_rfl) ?_);refine wpAny_ite_split (fun M7=>absurd M7 (by decide)) (fun _=>?_);refine wpAny_ite_split (fun _=>?_) (fun M7=>absurd (by decide +kernel) M7);refine wpAny_bind (wpAny_typeOf hT ?_);exact wpAny_pure h
theorem HX(g:Good t es.size)(hm:es.size<=t.mask)(hl:t.led=!w.params.followText "set-order"):KdlSrc prog w "set" a a es.size (fun i v=>(cY w a es ep)[i]?=some v) (fun h=>cy h a es ep t) where
 type:=fun _ x=>x.typeIs
 there:=fun _ x=>let ⟨_,ho,_⟩:=x;⟨S9 ho,S9 ho⟩
 keep:=fun _ _ x hk=>x.at fun o e=>hk a (.inl rfl) o e
 notList:=by decide
 notTuple:=by decide
 hint:=fun _ _ _ _ x hq=>DQ x.typeIs hq
 iter:=fun _ s hh x=>⟨_,_,(fun _ _ hq=>x6 x g hm hq),Bk hh _ a (let ⟨_,ho,_⟩:=x;Ti (S9 ho)) g hm hl,
  ⟨⟨_,To _ rfl,rfl,by simp[slotAt]⟩,x.at fun o e=>Ds _ e⟩⟩
end
open PySem PySem.SetTable PySem.W PyProof.Rows
def Small(t:SetTable)(n:Nat):Prop:=(t.mask=7/\n<=4)\/(t.mask=31/\n<=18)\/(t.mask=127/\n<=76)
theorem Small.le{t:SetTable}{n:Nat}(h:Small t n):n<=t.mask:=by rcases h with⟨a,b⟩ | ⟨a,b⟩ | ⟨a,b⟩<;>lia
theorem uO{h:Heap}{a:Addr}{es es':Array (Int×Value)}{ep:Nat}{t t':SetTable}(x:cy h a es ep t):cy (h.update a (V2 es' t')) a es' (ep+1) t':=by obtain⟨o,ho,hex,hd⟩:=x;have:=Vb (V2 es' t') ho (by rw[putSet_of es' t' hd];rfl);rw[putSet_of es' t' hd]at this;exact⟨_,this,hex,rfl⟩
noncomputable abbrev nG(led:Bool):Obj:={ cls:=.type "set",dict:=none,data:=.set #[] 0 (.fresh 0 0 led) }
noncomputable def bt(w:World):Bool:=w.params.followText "set-order"
theorem x8(led:Bool):Good (.fresh 0 0 led) 0:=⟨rfl,rfl,Sa,.nil,fun j h=>(by cases h),rfl⟩
theorem DR{prog:Program}{w:World}{A:Around}{R:Result->Shared->Prop}{I S:Addr}{fp wr:List Addr}{G:Array GenState->Array GenState->Prop}{n:Nat}{P:Nat->Value->Prop}{St:Nat->Shared->Prop}{J:Nat->Heap->Prop}(W:WalksS prog w A.in1 I fp wr G n P St)(off:S∉fp)
  (jk:∀i h h',J i h->(∀b o,b∉wr->h.get? b=some o->h'.get? b=some o)->J i h')
  (ja:∀i v (u:Shared) (E:Value->Shared->Prop) (K:Bool->Shared->Prop),i<n->P i v->J i u.heap->(∀c h' tk,u.toks<=tk->Vl S u.heap h'->J (i+1) h'->K c { u with heap:=h',toks:=tk })->wpAny (model prog w) A.in1 (setAdd S v) K E u)
  (i:Nat) (s:Shared) (hi:i<=n) (st:St i s) (hJ:J i s.heap) (Fp:∀s',Moved (S::wr) G s s'->J n s'.heap->R (.ok (.ret .none)) s'):codeAny (model prog w) A (.builtin "set.update.loop" ⟨[.ref S,.ref I],[]⟩) R s:=by
 have nw:S∉wr:=fun z=>off (W.sub _ z);have up:∀{x y:Shared},Moved wr G x y->Moved (S::wr) G x y:=fun m=>m.mono fun _=>gc _
 generalize hd:n-i=d
 induction d generalizing i s with
 |zero=>cases (show i=n by lia);refine codeAny_builtin F.entry_set_update_loop (Around.under_plainId V4 _▸?_);exact wpAny_bind (W.done s _ _ st fun s' m=>wpAny_pure (Fp s' (up m) (jk _ _ _ hJ fun b o hb e=>m.heap b o hb e)))
 |succ d ih=>
  have lt:i<n:=by lia
  refine codeAny_builtin F.entry_set_update_loop (Around.under_plainId V4 _▸?_);refine wpAny_bind (W.item i s _ _ lt st fun v u hv st1 m=>?_);refine wpAny_bind (wpAny_holding (ja i v u _ _ lt hv (jk _ _ _ hJ fun b o hb e=>m.heap b o hb e) fun c h' tk ht sb hJ'=>wpAny_pure ⟨plainId_quiet V4 _,?_⟩));refine ih (i+1) _ lt (W.frame _ u _ _ st1 ht fun b hb o e=>(sb.2 b fun z=>off (z▸hb)).trans e) hJ' (fun s' m'=>Fp s' (Moved.trans W.gtrans ((up m).then_heap ht fun b o hb e=>?_) m')) (by lia);exact(sb.2 b fun z=>hb (z▸gV)).trans e
section
variable{prog:Program}{w:World}{A:Around}{E:Value->Shared->Prop}{s:Shared}
theorem DU(x:Value){K:Value->Shared->Prop}(h:K (.ref s.heap.objs.size) { s with heap:=s.heap.push (nG (!bt w)) }):codeAny (model prog w) A (.call (.builtin "set.__new__") ⟨[.type "set",x],[]⟩) (wants K E) s:=by
 refine codeAny_call_builtin PySem.F.plain_set_new PySem.F.entry_set_new (wpAny_of_eq (PySem.F.newCall_set_1 x) ?_);have sub:=sub_set_self;cases s;unfold Builtin.«set.__new__» Builtin.Frozenset.newClass
 wp_walk
 exact wpAny_askSetting (wpAny_pure (wpAny_bind (wpAny_alloc (wpAny_pure (wpAny_pure h)))))
set_option maxHeartbeats 3200000 in
theorem Bl{x:Value}{K:Value->Shared->Prop} (body:∀led,led=(!bt w)->wpAny (model prog w) A.in1.in1 (Builtin.«set.__init__» ⟨[.ref s.heap.objs.size,x],[]⟩)
   (fun f u=>∃h' tk,f=.done (.ret .none)/\u={ s with heap:=h',toks:=tk }/\K (.ref s.heap.objs.size) { s with heap:=h',toks:=tk }) E { s with heap:=s.heap.push (nG led) }):wpAny (model prog w) A (call (.type "set") [x]) K E s:=by
 have ft:=PySem.F.called_set;obtain⟨c,tl,e1⟩:=ft.mro;have e2:=ft.made;have e3:=ft.sub;have e4:=ft.notType;have e5:=ft.canCreate;have e6:=PySem.F.typeCall_set_1 x;refine wpAny_call (codeAny_of_tree (wpAny_pure ⟨Code.quiet_builtin _ (by decide +kernel),codeAny_builtin PySem.F.entry_type_call (Around.under_plain (weight_type_call_type "set" [x] []) rfl▸?_)⟩))
 repeat (any_goals (first | assumption | wp_step))
 generalize HY:(!bt w)=led at body
 refine codeAny_mono (DU x (E:=E) (K:=fun y u=>y=.ref s.heap.objs.size/\u={ s with heap:=s.heap.push (nG led) }) ⟨rfl,by rw[HY]⟩) fun q u hq=>?_
 match q,hq with
 |.error _,hq=>exact hq
 |.ok (.ret y),⟨h1,h2⟩=>
  subst h1 h2;have ty:Shared.TypeIs { s with heap:=s.heap.push (nG led) } (.ref s.heap.objs.size) "set" := ⟨_,To _ rfl,rfl⟩
  have e7:=ft.init.lookup;have e8:=ft.init.bind (.ref s.heap.objs.size)
  repeat (any_goals (first | assumption | wp_step))
  refine codeAny_mono (codeAny_call_builtin (R:=wants (fun z u=>z=.none/\∃h' tk,u={ s with heap:=h',toks:=tk }/\K (.ref s.heap.objs.size) { s with heap:=h',toks:=tk }) E) ft.init.plain PySem.F.entry_set_init (check_set_init_1 ty ?_)) fun q' u' hq'=>?_
  ·refine wpAny_mono (body led rfl) (fun f u hf=>?_) fun _ _ z=>z;obtain⟨h',tk,rfl,rfl,hk⟩:=hf;exact⟨rfl,h',tk,rfl,hk⟩
  ·match q',hq' with
   |.error _,hq'=>exact hq'
   |.ok (.ret z),⟨h1,h',tk,h2,hk⟩=>
    subst h1 h2
    repeat (any_goals (first | assumption | wp_step))
end
section
variable{t:SetTable}{h:Int}{mask:Nat}{n:Nat}{k0 i p:Nat}{j:Nat}{α β:Type}{K:Nat}
noncomputable def adv(mask:Nat)(p:Probe):Probe:=
 if p.more>0 then { p with j:=p.j+1,more:=p.more-1 } else { p with j:=(leap mask p.i p.perturb).1,more:=runEnd mask (leap mask p.i p.perturb).1-(leap mask p.i p.perturb).1,i:=(leap mask p.i p.perturb).1,perturb:=(leap mask p.i p.perturb).2 }
theorem MQ(t:SetTable)(p:Probe):t.advance p=adv t.mask p:=rfl
noncomputable def pth(mask:Nat)(h:Int):Nat->Probe
 |0=>{ j:=bits h % (mask+1),more:=runEnd mask (bits h % (mask+1))-bits h % (mask+1),i:=bits h % (mask+1),perturb:=bits h,dummy:=none }
 |k+1=>adv mask (pth mask h k)
theorem qS(mask:Nat)(h:Int):∀k,(pth mask h k).dummy=none
 |0=>rfl
 |k+1=>by show (adv mask (pth mask h k)).dummy=none;unfold adv;split<;>exact qS mask h k
theorem uP(g:Good t n){q:Met}:∀(f k:Nat),probe.go t (fun _=>h+1) h f (pth t.mask h k)=some q->∃K,k<=K/\K<k+f/\(pth t.mask h K).j∉t.place.toList/\∀l,k<=l->l<K->(pth t.mask h l).j∈t.place.toList
 |0,k,e=>by unfold probe.go at e;cases e
 |f+1,k,e=>by
  rcases g.slot (pth t.mask h k).j with⟨q1,q2⟩ | ⟨q1,i,q2⟩
  ·exact⟨k,PU _,by lia,q1,fun l h1 h2=>by lia⟩
  ·rw[zI q2,MQ]at e;obtain⟨K,h1,h2,h3,h4⟩:=uP g f (k+1) e;refine⟨K,by lia,by lia,h3,fun l hl hK=>?_⟩;rcases UU hl with z | z
   ·rw[<- z];exact q1
   ·exact h4 l z hK
theorem uQ(g:Good t n)(hn:n<=t.mask)(h:Int):∃K,K<10*turns t.mask/\(pth t.mask h K).j∉t.place.toList/\∀l,l<K->(pth t.mask h l).j∈t.place.toList:=by obtain⟨j0,h0,n0⟩:=room (mask:=t.mask) (l:=t.place.toList) (by rw[Te,g.sz];exact hn);have hi:bits h % (t.mask+1)<=t.mask:=Vf (V1 _ (VU _));obtain⟨m,hm,e⟩:=ER g.cv hi (zG h) h0;obtain⟨j,a,_,_⟩:=uM g (h:=h) (t.mask+14) (10*turns t.mask) (bits h % (t.mask+1)) (bits h) hi (by unfold turns;lia) ⟨m,hm,by rw[e];exact n0⟩;obtain⟨K,h1,h2,h3,h4⟩:=uP g (10*turns t.mask) 0 a;exact⟨K,by lia,h3,fun l hl=>h4 l (TM _) hl⟩
theorem sP(g:Good t n)(h:j∈t.place.toList):t.slot j=.live (below t.place j)/\t.place[below t.place j]?=some j:=by have e:=(kD g.ris).mpr h;refine⟨?_,e⟩;unfold SetTable.slot;dsimp only;rw[if_pos (by rw[e];exact beq_self_eq_true _)]
theorem k_(g:Good t n)(ha:Nat->Int)(hK:(pth t.mask h K).j∉t.place.toList)(hl:∀l,l<K->(pth t.mask h l).j∈t.place.toList):∀(f k:Nat),k<=K->K<k+f ->
  (probe.go t ha h f (pth t.mask h k)=some (.empty (pth t.mask h K).j none)/\∀l,k<=l->l<K->ha (below t.place (pth t.mask h l).j)≠h) \/
  ∃m,k<=m/\m<K/\probe.go t ha h f (pth t.mask h k)=some (.candidate (pth t.mask h m).j (below t.place (pth t.mask h m).j) (pth t.mask h (m+1)))/\ha (below t.place (pth t.mask h m).j)=h/\∀l,k<=l->l<m->ha (below t.place (pth t.mask h l).j)≠h
 |0,k,h1,h2=>by lia
 |f+1,k,h1,h2=>by
  rcases UU h1 with z | z
  ·subst z;left;refine⟨?_,fun l a b=>by lia⟩;rcases g.slot (pth t.mask h k).j with⟨_,q2⟩ | ⟨q1,_⟩
   ·conv=>lhs;unfold probe.go
    rw[q2];dsimp only;rw[qS]
   ·exact absurd q1 hK
  ·obtain⟨q1,q2⟩:=sP g (hl k z);by_cases e:ha (below t.place (pth t.mask h k).j)=h
   ·right;refine⟨k,PU _,z,?_,e,fun l a b=>by lia⟩
    conv=>lhs;unfold probe.go
    rw[q1];dsimp only;rw[if_pos (by simpa using e)];rfl
   ·have step:probe.go t ha h (f+1) (pth t.mask h k)=probe.go t ha h f (pth t.mask h (k+1)):=by
     conv=>lhs;unfold probe.go
     rw[q1];dsimp only;rw[if_neg (by simpa using e)];rfl
    rw[step];rcases k_ g ha hK hl f (k+1) z (by lia) with⟨r1,r2⟩ | ⟨m,r1,r2,r3,r4,r5⟩
    ·refine .inl ⟨r1,fun l a b=>?_⟩;rcases UU a with y | y
     ·rw[<- y];exact e
     ·exact r2 l y b
    ·refine .inr ⟨m,by lia,r2,r3,r4,fun l a b=>?_⟩;rcases UU a with y | y
     ·rw[<- y];exact e
     ·exact r5 l y b
def Rch(t:SetTable)(es:Array (Int×Value)):Prop:=∀(e:Int×Value) (j:Nat),(e,j)∈es.toList.zip t.place.toList->∃k,(pth t.mask e.1 k).j=j/\∀l,l<k->(pth t.mask e.1 l).j∈t.place.toList
theorem MR{xs:Array α}{ys:Array β}{i:Nat}{x:α}{y:β}(h1:xs[i]?=some x)(h2:ys[i]?=some y):(x,y)∈xs.toList.zip ys.toList:=by refine List.mem_iff_getElem?.mpr ⟨i,?_⟩;rw[List.getElem?_zip_eq_some];exact⟨by simpa using h1,by simpa using h2⟩
theorem Rch.ahead{es:Array (Int×Value)}(r:Rch t es){K j:Nat}{x:Value}(hK:(pth t.mask h K).j∉t.place.toList)(hz:((h,x),j)∈es.toList.zip t.place.toList):∃k,k<K/\(pth t.mask h k).j=j:=by
 obtain⟨k,h1,h2⟩:=r (h,x) j hz;refine⟨k,?_,h1⟩;rcases Nat.lt_trichotomy k K with z | z | z
 ·exact z
 ·subst z;have h1:(pth t.mask h k).j=j:=h1;exact absurd (h1▸(UY hz).2) hK
 ·exact absurd (h2 K z) hK
theorem Rch.fresh(led:Bool):Rch (.fresh 0 0 led) #[]:=fun e j h=>by cases h
theorem x9(xs:List α)(ys:List β)(p:Nat)(x:α)(y:β)(hl:xs.length=ys.length)(u:α)(v:β)(h:(u,v)∈(xs.take p++x::xs.drop p).zip (ys.take p++y::ys.drop p)):(u,v)=(x,y)\/(u,v)∈xs.zip ys:=by
 rw[List.zip_append (by rw[Uo,Uo,hl]),Um]at h;rcases Tp.mp h with h | h
 ·right;have h':(u,v)∈(xs.zip ys).take p:=by
   unfold List.zip at h ⊢;rw[List.take_zipWith];exact h
  exact VL h'
 ·rcases S4.mp h with h | h
  ·exact .inl h
  ·right;have h':(u,v)∈(xs.zip ys).drop p:=by
    unfold List.zip at h ⊢;rw[List.drop_zipWith];exact h
   exact Ww h'
theorem Rch.put{es:Array (Int×Value)}(r:Rch t es)(g:Good t es.size){x:Value}(hl:∀l,l<K->(pth t.mask h l).j∈t.place.toList) :
  Rch (t.put (pth t.mask h K).j).1 (insertAt es (t.put (pth t.mask h K).j).2 (h,x)):=by
 have ep:(t.put (pth t.mask h K).j).1.place.toList=t.place.toList.take (below t.place (pth t.mask h K).j)++(pth t.mask h K).j::t.place.toList.drop (below t.place (pth t.mask h K).j):=cS _ _ _;have old:∀y∈t.place.toList,y∈(t.put (pth t.mask h K).j).1.place.toList:=fun y hy=>by
  rw[ep];have hy':y∈t.place.toList.take (below t.place (pth t.mask h K).j)++t.place.toList.drop (below t.place (pth t.mask h K).j):=by rw[VG];exact hy
  rcases Tp.mp hy' with z | z
  ·exact T6 _ z
  ·exact TF _ (gc _ z)
 intro e j hz;have hm:(t.put (pth t.mask h K).j).1.mask=t.mask:=rfl;rw[hm];rw[ep,cS]at hz;rcases x9 es.toList t.place.toList _ (h,x) (pth t.mask h K).j (by rw[Te,Te,g.sz]) e j hz with z | z
 ·injection z with z1 z2
  subst z1 z2;exact⟨K,rfl,fun l hlK=>old _ (hl l hlK)⟩
 ·obtain⟨k,h1,h2⟩:=r e j z;exact⟨k,h1,fun l hlk=>old _ (h2 l hlk)⟩
theorem jN(e:pth mask h k0=qQ mask i p):∀m,m<=runEnd mask i-i->pth mask h (k0+m)={ j:=i+m,more:=runEnd mask i-i-m,i:=i,perturb:=p,dummy:=none }
 |0,_=>e
 |m+1,hm=>by
  show adv mask (pth mask h (k0+m))=_;rw[jN e m (by lia)];unfold adv;dsimp only;rw[if_pos (by lia)]
  congr 1
theorem DV(e:pth mask h k0=qQ mask i p):pth mask h (k0+(runEnd mask i-i)+1)=qQ mask (leap mask i p).1 (leap mask i p).2:=by show adv mask (pth mask h (k0+(runEnd mask i-i)))=_;rw[jN e _ (PU _)];unfold adv;dsimp only;rw[if_neg (by lia)];rfl
theorem taken{owner:Array (Option Nat)}(hj:j<owner.size)(h:¬(owner.getD j (some 0)).isNone=true):∃v,owner[j]?=some (some v):=by
 rw[Tt,S8 hj,VJ]at h;rw[S8 hj];cases q:owner[j] with
 |none=>rw[q]at h;exact absurd rfl h
 |some v=>exact⟨v,rfl⟩
theorem uR{owner:Array (Option Nat)}(hs:owner.size=mask+1):∀(fuel i p k0 j:Nat),pth mask h k0=qQ mask i p->i<=mask->layClean.free mask owner fuel i p=some j->∃K,k0<=K/\(pth mask h K).j=j/\j<=mask/\owner[j]?=some none/\∀l,k0<=l->l<K->∃v,owner[(pth mask h l).j]?=some (some v)
 |0,i,p,k0,j,_,_,e=>by unfold layClean.free at e;cases e
 |fuel+1,i,p,k0,j,hp,hi,e=>by
  have hr:i<=runEnd mask i/\runEnd mask i<=mask:=by unfold runEnd;split<;>lia
  unfold layClean.free at e;cases hf:(S3 (runEnd mask i+1-i)).find? fun k=>(owner.getD (i+k) (some 0)).isNone with
  |some k=>
   rw[hf]at e;dsimp only at e;cases e;obtain⟨f1,f2,f3⟩:=List.find?_range_eq_some.mp hf;have f2:=Tw.mp f2;refine⟨k0+k,by lia,by rw[jN hp k (by lia)],by lia,?_,fun l h1 h2=>?_⟩
   ·have En:i+k<owner.size:=by lia
    rw[Tt,S8 En,VJ]at f1;rw[S8 En];exact congrArg some (Option.isNone_iff_eq_none.mp f1)
   ·have el:l=k0+(l-k0):=by lia
    rw[el,jN hp (l-k0) (by lia)];refine taken (by show i+(l-k0)<_;lia) fun z=>?_;have z':(owner.getD (i+(l-k0)) (some 0)).isNone=true:=z;have t:=f3 (l-k0) (by lia);rw[z']at t;cases t
  |none=>
   rw[hf]at e;dsimp only at e;have all:=Va.mp hf;obtain⟨K,q1,q2,q3,q4,q5⟩:=uR hs fuel (leap mask i p).1 (leap mask i p).2 _ j (DV hp) (uL mask 1 (i,p) hi) e;refine⟨K,by lia,q2,q3,q4,fun l h1 h2=>?_⟩;rcases WC l (k0+(runEnd mask i-i)+1) with z | z
   ·have el:l=k0+(l-k0):=by lia
    rw[el,jN hp (l-k0) (by lia)];exact taken (by show i+(l-k0)<_;lia) (all (l-k0) (Tw.mpr (by lia)))
   ·exact q5 l z h2
def ROw(mask:Nat)(H:List Int)(owner:Array (Option Nat)):Prop:=∀j idx:Nat,owner[j]?=some (some idx)->∃h k,H[idx]?=some h/\(pth mask h k).j=j/\∀l,l<k->∃v,owner[(pth mask h l).j]?=some (some v)
theorem qT{mask:Nat}:∀hs:List Int,hs.foldl (fun tG h=>do
   let (owner,k) <- tG
   let j <- layClean.free mask owner (turns mask) (bits h % (mask+1)) (bits h)
   pure (owner.setIfInBounds j (some k),k+1)) (none:Option (Array (Option Nat)×Nat))=none
 |[]=>rfl
 |h::hs=>qT hs
theorem zL{H:List Int}:∀(hs:List Int) (owner owner':Array (Option Nat)) (k m:Nat),H.drop k=hs->owner.size=mask+1->ROw mask H owner->hs.foldl (fun tG h=>do
   let (owner,k) <- tG
   let j <- layClean.free mask owner (turns mask) (bits h % (mask+1)) (bits h)
   pure (owner.setIfInBounds j (some k),k+1)) (some (owner,k))=some (owner',m)->ROw mask H owner'
 |[],owner,owner',k,m,_,_,r,e=>by cases e;exact r
 |h::hs,owner,owner',k,m,hd,sz,r,e=>by
  rw[Vx]at e;cases q:layClean.free mask owner (turns mask) (bits h % (mask+1)) (bits h) with
  |none=>
   have:(do
    let (owner,k) <- some (owner,k)
    let j <- layClean.free mask owner (turns mask) (bits h % (mask+1)) (bits h)
    pure (owner.setIfInBounds j (some k),k+1):Option (Array (Option Nat)×Nat))=none:=by
    show (layClean.free mask owner (turns mask) (bits h % (mask+1)) (bits h)).bind _=none;rw[q];rfl
   rw[this,qT]at e;cases e
  |some j=>
   have this:(do
    let (owner,k) <- some (owner,k)
    let j <- layClean.free mask owner (turns mask) (bits h % (mask+1)) (bits h)
    pure (owner.setIfInBounds j (some k),k+1):Option (Array (Option Nat)×Nat))=some (owner.setIfInBounds j (some k),k+1):=by
    show (layClean.free mask owner (turns mask) (bits h % (mask+1)) (bits h)).bind _=_;rw[q];rfl
   rw[this]at e;have hk:H[k]?=some h:=by
    have:=congrArg (fun l=>l[0]?) hd
    simpa using this
   obtain⟨K,q1,q2,q3,q4,q5⟩:=uR (h:=h) sz (turns mask) _ _ 0 j rfl (Vf (V1 _ (VU _))) q;have jl:j<owner.size:=by lia
   have keep:∀x v,owner[x]?=some (some v)->(owner.setIfInBounds j (some k))[x]?=some (some v):=fun x v hx=>by
    rw[VF];split
    ·rename_i z;rw[<- z,q4]at hx;cases hx
    ·exact hx
   refine zL hs _ owner' (k+1) m ?_ (by rw[Array.size_setIfInBounds];exact sz) (fun x idx hx=>?_) e
   ·rw[<- List.drop_drop,Nat.add_comm]at *
    first | (rw[hd];rfl) | (have:=congrArg (List.drop 1) hd;simpa using this)
   ·rw[VF]at hx;split at hx
    ·rename_i z;subst z;cases hx;refine⟨h,K,hk,q2,fun l hl=>?_⟩;obtain⟨v,hv⟩:=q5 l (TM _) hl;exact⟨v,keep _ _ hv⟩
    ·obtain⟨h',k',r1,r2,r3⟩:=r x idx hx;exact⟨h',k',r1,r2,fun l hl=>by obtain⟨v,hv⟩:=r3 l hl;exact⟨v,keep _ _ hv⟩⟩
theorem uS{es:Array (Int×Value)}{e:Int×Value}:∀(L:List (Nat×Nat)),(∀q∈L,∃e,es[q.2]?=some e)->(e,j)∈((L.map (·.2)).filterMap (es[·]?)).zip (L.map (·.1))->∃idx,(j,idx)∈L/\es[idx]?=some e
 |[],_,h=>by cases h
 |q::L,ok,h=>by
  obtain⟨e0,h0⟩:=ok q gV;rw[eg,eg,Ue,h0]at h;rcases S4.mp h with z | z
  ·injection z with z1 z2
   subst z1 z2;exact⟨q.2,gV,h0⟩
  ·obtain⟨idx,h1,h2⟩:=uS L (fun q hq=>ok q (gc _ hq)) z;exact⟨idx,gc _ h1,h2⟩
theorem Bm{es:Array (Int×Value)}{wanted:Nat}(c:Cov (sizeAbove wanted-1))(hn:es.size<=sizeAbove wanted-1)(pl:t.plain=true) :
  ∃t' order,t.relaid (es.map (·.1)) wanted=some (t',order)/\(order.filterMap (es[·]?)).size=es.size/\Good t' es.size/\t'.mask=sizeAbove wanted-1/\t'.led=t.led/\(order.filterMap (es[·]?)).toList.Perm es.toList/\Rch t' (order.filterMap (es[·]?)):=by
 obtain⟨t',order,q1,q2,q3,q4,q5,q6,q7,q8,q9⟩:=HW (finger:=t.finger) (moves:=t.movedTo (sizeAbove wanted-1)) (led:=t.led) (plain:=t.plain) (hashes:=es.map (·.1)) c (by rw[V0];exact hn);rw[V0]at q8 q9;have pe:(order.filterMap (es[·]?)).toList.Perm es.toList:=by
  rw[Array.toList_filterMap];refine(q9.filterMap _).trans (.of_eq ?_);have:∀l:List (Int×Value),(S3 l.length).filterMap (fun i=>l[i]?)=l:=fun l=>by
   induction l with
   |nil=>rfl
   |cons x l ih=>
    rw[TV,List.range_succ_eq_map,Ue];show x::_=_;rw[List.filterMap_map]
    congr 1
  have h2:=this es.toList
  simpa using h2
 refine⟨t',order,q1,by rw[<- Te,pe.length_eq,Te],⟨q5,q4.trans pl,by rw[q2];exact c,q6,by rw[q2];exact q7,q8⟩,q2,q3,pe,?_⟩;obtain ⟨owner,f1,f2,f3⟩:=nC c (es.map (·.1)).toList (Wz (sizeAbove wanted-1+1) none) 0 (by simp) (by
  have:lay (sizeAbove wanted-1) (Wz (sizeAbove wanted-1+1) none)=[]:=by unfold lay;rw[List.filterMap_eq_nil_iff];intro j hj;unfold ow;rw[Tt,VW];split<;>rfl
  rw[this];exact .refl _) (by rw[Te,V0];lia)
 have ro:ROw (sizeAbove wanted-1) (es.map (·.1)).toList owner:=zL (H:=(es.map (·.1)).toList) _ _ _ 0 _ rfl (by simp) (fun j idx h=>by rw[VW]at h;split at h<;>cases h) f1
 have lc:layClean (sizeAbove wanted-1) (es.map (·.1))=some owner:=by unfold layClean;rw[<- Array.foldl_toList,f1];rfl
 unfold laid at q1;rw[lc]at q1;cases q1;intro e j hz;have Qg:∀x v,owner[x]?=some (some v)->x∈((S3 (sizeAbove wanted-1+1)).filterMap fun j=>(owner.getD j none).map (j,·)).map (·.1):=fun x v hx=>by have En:=(T9.mp hx).1;refine Td.mpr ⟨(x,v),Vw.mpr ⟨x,Tw.mpr (by lia),?_⟩,rfl⟩;rw[Tt,hx];rfl
 have own:∀q∈(S3 (sizeAbove wanted-1+1)).filterMap fun j=>(owner.getD j none).map (j,·),owner[q.1]?=some (some q.2):=fun q hq=>by
  obtain⟨x,hx,ex⟩:=Vw.mp hq;have En:x<owner.size:=by have:=Tw.mp hx;lia
  rw[Tt,S8 En,VJ]at ex;cases y:owner[x] with
  |none=>rw[y]at ex;cases ex
  |some v=>rw[y]at ex;cases ex;show owner[x]?=some (some v);rw[S8 En,y]
 have hash:∀idx h,(es.map (·.1)).toList[idx]?=some h->∃x,es[idx]?=some (h,x):=fun idx h hx=>by
  rw[Up,Array.getElem?_map]at hx;cases y:es[idx]? with
  |none=>rw[y]at hx;cases hx
  |some p=>rw[y]at hx;cases hx;exact⟨p.2,y⟩
 rw[Array.toList_filterMap]at hz;obtain ⟨idx,g1,g2⟩:=uS _ (fun q hq=>by obtain⟨h,k,r1,_⟩:=ro q.1 q.2 (own q hq);obtain⟨x,hx⟩:=hash _ _ r1;exact⟨_,hx⟩) hz
 obtain⟨h,k,r1,r2,r3⟩:=ro j idx (own _ g1);obtain⟨x,hx⟩:=hash _ _ r1;rw[g2]at hx;cases hx;refine⟨k,r2,fun l hl=>?_⟩;obtain⟨v,hv⟩:=r3 l hl;exact Qg _ v hv
end
section
variable{prog:Program}{w:World}{A:Around}{E:Value->Shared->Prop}{s:Shared}{ks:List Int}{a:Addr}
section
variable{Q:Bool->Shared->Prop}
theorem ints_in{items:Array Value}:∀{ks:List Int} {l:List Value},ItemsAre (intKind prog w) ks l->∀v∈l,∃n t,v=Vj n t:=fun {ks l} h=>by
 induction h with
 |nil=>intro v hv;cases hv
 |cons h1 _ ih=>
  intro v hv;rcases S4.mp hv with rfl | hv
  ·obtain⟨t,e⟩:=WU h1;exact⟨_,t,e⟩
  ·exact ih v hv
theorem uT(hk:IsTupleKey (intKind prog w) s.heap ks a)(h:Q false s):wpAny (model prog w) A (ofAClassStatement 8 (.ref a)) Q E s:=by
 have hT:=hk.typeIs;obtain⟨o,items,n,ho,_,hd,hi⟩:=hk;unfold ofAClassStatement;refine wpAny_bind (wpAny_typeOf hT ?_);dsimp only;refine wpAny_bind (wpAny_pure ?_);simp only[Vd,Tc,if_false];refine wpAny_bind (wpAny_seqItems ho hd (wpAny_bind ?_));show wpAny _ _ (forIn items _ _) _ _ s;rw[<- VY];refine wpAny_forIn_list _ (fun Bu r s'=>r.1=none/\s'=s/\∀v∈Bu,∃n t,v=Vj n t) _ ?_ ?_ _ _ ⟨rfl,rfl,ints_in (items:=items) hi⟩
 ·rintro v Bu r s' ⟨hr,rfl,hall⟩;obtain⟨m,t,rfl⟩:=hall v gV;refine wpAny_bind (wpAny_pure (a:=false) (wpAny_pure ⟨rfl,rfl,fun u hu=>hall u (gc _ hu)⟩))
 ·rintro⟨r1,r2⟩ s' ⟨hr,rfl,_⟩;simp only at hr;subst hr;exact wpAny_pure h
theorem DX(hk:IsTupleKey (intKind prog w) s.heap ks a)(h:Q true s):wpAny (model prog w) A (hashByValue 8 (.ref a)) Q E s:=by
 have hT:=hk.typeIs;obtain⟨o,items,n,ho,_,hd,hi⟩:=hk;unfold hashByValue;refine wpAny_bind (wpAny_specialOf hT PySem.F.slot_tuple_hash.lookup ?_);dsimp only;refine wpAny_bind (wpAny_seqItems ho hd (wpAny_bind ?_));show wpAny _ _ (forIn items _ _) _ _ s;rw[<- VY];refine wpAny_forIn_list _ (fun Bu r s'=>r.1=none/\s'=s/\∀v∈Bu,∃n t,v=Vj n t) _ ?_ ?_ _ _ ⟨rfl,rfl,ints_in (items:=items) hi⟩
 ·rintro v Bu r s' ⟨hr,rfl,hall⟩;obtain⟨m,t,rfl⟩:=hall v gV;refine wpAny_bind (wpAny_pure (a:=true) (wpAny_pure ⟨rfl,rfl,fun u hu=>hall u (gc _ hu)⟩))
 ·rintro⟨r1,r2⟩ s' ⟨hr,rfl,_⟩;simp only at hr;subst hr;exact wpAny_pure h
theorem MS{stored:List Value}(hk:IsTupleKey (intKind prog w) s.heap ks a)(hs:∀v∈stored,∃ks b,v=.ref b/\IsTupleKey (intKind prog w) s.heap ks b)(h:Q false s):wpAny (model prog w) A (searchCouldBeSeen (.ref a) stored) Q E s:=by
 unfold searchCouldBeSeen;refine wpAny_bind ?_;refine wpAny_forIn_list _ (fun Bu r s'=>r.1=none/\s'=s/\∀v∈Bu,∃ks b,v=.ref b/\IsTupleKey (intKind prog w) s.heap ks b) _ ?_ ?_ _ _ ⟨rfl,rfl,hs⟩
 ·rintro v Bu r s' ⟨hr,rfl,hall⟩;obtain⟨ks',b,rfl,hb⟩:=hall v gV;have next:∀u∈Bu,∃ks b,u=.ref b/\IsTupleKey (intKind prog w) s'.heap ks b:=fun u hu=>hall u (gc _ hu)
  dsimp only;by_cases e:a=b
  ·subst e;simp only[beq_self_eq_true,Bool.true_or,if_true];exact wpAny_pure ⟨rfl,rfl,next⟩
  ·have e':(a == b)=false:=beq_eq_false_iff_ne.mpr e;simp only[e',carriedByValue,Xf,Bool.or_false,Tc,if_false];refine wpAny_bind (wpAny_eqIsQuiet_tuple hk ?_);simp only[Vd,Tc,if_false];refine wpAny_bind (wpAny_eqIsQuiet_tuple hb ?_);simp only[Vd,Tc,if_false];refine wpAny_bind (uT hk ?_);simp only[Tc,if_false];refine wpAny_bind (uT hb ?_);simp only[Tc,if_false];exact wpAny_pure ⟨rfl,rfl,next⟩
 ·rintro⟨r1,r2⟩ s' ⟨hr,rfl,_⟩;simp only at hr;subst hr;exact wpAny_pure h
end
end
def Qh(prog:Program)(w:World)(h:Heap)(es:Array (Int×Value)):Prop:=∀e∈es.toList,∃ks b,e=(tupleKeyHash (intKind prog w) ks,Tz b)/\IsTupleKey (intKind prog w) h ks b
section
variable{prog:Program}{w:World}{A:Around}{E:Value->Shared->Prop}{s:Shared}{ks:List Int}{a b:Addr}{es:Array (Int×Value)}{ep:Nat}{t:SetTable}
theorem zM{Q:SetFound->Shared->Prop}{K:Nat}{h:Int}(hh:tupleKeyHash (intKind prog w) ks=h)(hu:A.units<cLine)(x1:cy s.heap a es ep t)(g:Good t es.size)(hm:es.size<=t.mask)(odd:t.mask % 2=1)(hE:Qh prog w s.heap es)(hx:IsTupleKey (intKind prog w) s.heap ks b)
  (hK:(pth t.mask h K).j∉t.place.toList) (hl:∀l,l<K->(pth t.mask h l).j∈t.place.toList) (hT:K<10*turns t.mask)
  (there:(∃c,(h,Tz c)∈es.toList/\IsTupleKey (intKind prog w) s.heap ks c)->Q (.there none) s)
  (free:(∀l c ks',l<K->es[below t.place (pth t.mask h l).j]?=some (h,Tz c)->IsTupleKey (intKind prog w) s.heap ks' c->ks'≠ks)->Q (.free (pth t.mask h K).j false) s) :
  ∀(fuel k:Nat) (stand:Option Probe),stand.getD (t.probeStart h)=pth t.mask h k->k<=K->K<k+fuel ->
   (∀l c ks',l<k->es[below t.place (pth t.mask h l).j]?=some (h,Tz c)->IsTupleKey (intKind prog w) s.heap ks' c->ks'≠ks) ->
   wpAny (model prog w) A (setSearchFrom a (.ref b) h true fuel stand) Q E s
 |0,k,stand,_,h1,h2,_=>by lia
 |fuel+1,k,stand,hs,h1,h2,no=>by
  unfold setSearchFrom;refine wpAny_bind (bC x1 g hm ?_);dsimp only;have gw:t.gaveWay=false:=by unfold SetTable.gaveWay;rw[odd];rfl
  rw[gw];simp only[Tc,if_false];rw[hs];rcases k_ g (fun i=>(es[i]?.map (·.1)).getD 0) hK hl (10*turns t.mask) k h1 (by lia) with⟨r1,r2⟩ | ⟨m,r1,r2,r3,r4,r5⟩
  ·have r1':t.probe (fun i=>(es[i]?.map (·.1)).getD 0) h (pth t.mask h k)=some (.empty (pth t.mask h K).j none):=r1
   erw [r1']
   dsimp only;refine wpAny_pure (free fun l c ks' lK hc hk=>?_);rcases WC l k with z | z
   ·exact no l c ks' z hc hk
   ·have:=r2 l z lK;rw[hc]at this;exact absurd rfl this
  ·have r3':t.probe (fun i=>(es[i]?.map (·.1)).getD 0) h (pth t.mask h k)=some (.candidate (pth t.mask h m).j (below t.place (pth t.mask h m).j) (pth t.mask h (m+1))):=r3
   erw [r3']
   dsimp only;obtain⟨lv,lp⟩:=sP g (hl m r2);have ilt:below t.place (pth t.mask h m).j<es.size:=by have:=(T9.mp lp).1;rw[g.sz]at this;exact this
   have ei:es[below t.place (pth t.mask h m).j]?=some es[below t.place (pth t.mask h m).j]:=S8 ilt;obtain⟨kc,c,ec,hc⟩:=hE _ (VT ilt);rw[ec]at ei;rw[ei]at r4;have r4:tupleKeyHash (intKind prog w) kc=h:=r4;rw[r4]at ei;have quiet:∀v∈((es.filter (·.1 == h)).toList.map (·.2)),∃ks b,v=Tz b/\IsTupleKey (intKind prog w) s.heap ks b:=fun v hv=>by obtain⟨e,he,rfl⟩:=Td.mp hv;rw[Array.toList_filter]at he;obtain⟨k',b',e1,e2⟩:=hE e (T3.mp he).1;exact⟨k',b',by rw[e1],e2⟩
   have main:wpAny (model prog w) A (do
     let some (_,y):=es[below t.place (pth t.mask h m).j]? | unsupported "internal:set-entry"
     let equal <- holding [y] (eqBool y (.ref b))
     let (es',_,t') <- setState a
     if true&&equal then return .there none
     let some same:=t'.sameMemory t.moves t.mask | unsupported "set.changed-during-lookup:is-the-new-block-at-the-old-address"
     let Qi <- match (if same then t'.slot (pth t.mask h m).j else .empty) with
      |.live i'=>match es'[i']? with
       |some (_,y')=>do pure (if <- isSame y' y then some i' else none)
       |none=>pure none
      |_=>pure none
     match Qi with
     |none=>rule "set.search.anew";setSearchFrom a (.ref b) h true fuel none
     |some i'=>if equal then return .there (some i') else setSearchFrom a (.ref b) h true fuel (some (pth t.mask h (m+1)))) Q E s:=by
    rw[ei];dsimp only;refine wpAny_bind (wpAny_holding ((tupleKind (intKind prog w)).eqBool hu hc hx ?_));refine wpAny_bind (bC x1 g hm ?_);dsimp only;by_cases eq:kc=ks
    ·subst eq;simp only[decide_true,Xq,if_true];refine wpAny_pure (there ⟨c,?_,hc⟩);have:=VT ilt;rw[ec,r4]at this;exact this
    ·rw[decide_eq_false eq];simp only[Bool.and_false,Tc,if_false];have sm:t.sameMemory t.moves t.mask=some true:=by
      unfold SetTable.sameMemory;simp
     rw[sm];dsimp only;simp only[if_true];rw[lv];dsimp only;rw[ei];dsimp only;refine wpAny_bind (wpAny_isSame_ref_self (wpAny_bind (wpAny_pure ?_)));simp only[if_true];refine zM hh hu x1 g hm odd hE hx hK hl hT there free fuel (m+1) _ rfl (by lia) (by lia) fun l c' ks' hlm hc' hk'=>?_;rcases WC l k with z | z
     ·exact no l c' ks' z hc' hk'
     ·rcases WC l m with y | y
      ·have:=r5 l z y;rw[hc']at this;exact absurd rfl this
      ·cases (show l=m by lia);rw[ei]at hc';cases hc';intro q;subst q;exact eq ((tupleKind (intKind prog w)).inj hc hk')
   cases HY:t.led with
   |true=>simp only[Vd,Tc,if_false];exact main
   |false=>simp only[Xk,if_true];refine wpAny_bind (MS hx quiet ?_);simp only[Tc,if_false];exact main
end
section
variable{prog:Program}{ks:List Int}{w:World}
theorem DY(mask i:Nat)(h:i<=mask):i+(runEnd mask i-i)<=mask:=by unfold runEnd;split<;>lia
theorem DZ(mask:Nat)(h:Int):∀k,(pth mask h k).j+(pth mask h k).more<=mask
 |0=>DY mask _ (Vf (V1 _ (VU _)))
 |k+1=>by
  have ih:=DZ mask h k;show (adv mask (pth mask h k)).j+(adv mask (pth mask h k)).more<=mask;unfold adv;split
  ·dsimp only
   lia
  ·exact DY mask _ (by unfold leap;exact Vf (V1 _ (VU mask)))
noncomputable abbrev hsh(prog:Program)(w:World)(ks:List Int):Int:=tupleKeyHash (intKind prog w) ks
noncomputable def itm(prog:Program)(w:World)(q:List Int×Addr):Int×Value:=(hsh prog w q.1,Tz q.2)
def SetT(prog:Program)(w:World)(h:Heap)(a:Addr)(P:List (List Int×Addr)):Prop:=(∃es ep t,cy h a es ep t/\Good t es.size/\Rch t es/\Small t es.size/\(t.led=!w.params.followText "set-order")/\es.toList.Perm (P.map (itm prog w)))/\∀q∈P,IsTupleKey (intKind prog w) h q.1 q.2
theorem fy{h h':Heap}{c:Addr}(x:IsTupleKey (intKind prog w) h ks c)(e:∀o,h.get? c=some o->h'.get? c=some o):IsTupleKey (intKind prog w) h' ks c:=
 let ⟨o,items,n,ho,r⟩:=x
 ⟨o,items,n,e o ho,r⟩
theorem apart{h:Heap}{a c:Addr}{es ep t}(x:cy h a es ep t)(y:IsTupleKey (intKind prog w) h ks c):c≠a:=fun z=>by subst z;obtain⟨o,ho,hex,_⟩:=x;obtain⟨o',items,n,ho',hc,_⟩:=y;rw[ho]at ho';cases ho';have:=hex.1;rw[hc]at this;exact absurd this (by decide)
end
section
variable{prog:Program}{w:World}{A:Around}{E:Value->Shared->Prop}{s:Shared}{ks:List Int}{a b:Addr}{P:List (List Int×Addr)}
theorem HZ{Q:Bool->Shared->Prop}(hu:A.units<cLine)(x:SetT prog w s.heap a P)(hx:IsTupleKey (intKind prog w) s.heap ks b)(hn:P.length+1<=76)
  (h1:(∃q∈P,q.1=ks)->Q false s) (h2:(∀q∈P,q.1≠ks)->∀h',Vl a s.heap h'->SetT prog w h' a (P++[(ks,b)])->Q true { s with heap:=h' }) :
  wpAny (model prog w) A (setAddHashed a (.ref b) (hsh prog w ks)) Q E s:=by
 obtain⟨⟨es,ep,t,x1,g,rc,sm,hl,hp⟩,hk⟩:=x;obtain⟨o,ho,hex,hd⟩:=id x1;have D9:es.size=P.length:=by rw[<- Te,hp.length_eq,Dk]
 have hE:Qh prog w s.heap es:=fun e he=>by obtain⟨q,hq,rfl⟩:=Td.mp (hp.mem_iff.mp he);exact⟨q.1,q.2,rfl,hk q hq⟩
 have odd:t.mask % 2=1:=by rcases sm with⟨q,_⟩ | ⟨q,_⟩ | ⟨q,_⟩<;>rw[q]
 obtain⟨K,k1,k2,k3⟩:=uQ g sm.le (hsh prog w ks);have hT:10*turns t.mask<=100000:=by unfold turns;rcases sm with⟨q,_⟩ | ⟨q,_⟩ | ⟨q,_⟩<;>rw[q]<;>decide
 unfold setAddHashed setAddHashedIn;refine wpAny_holding (wpAny_bind (bC x1 g sm.le ?_));dsimp only;have bs:byScan (Tz b) es=false:=rfl;rw[bs];simp only[Tc,if_false];unfold setSearch;refine wpAny_bind (zM (K:=K) rfl hu x1 g sm.le odd hE hx k2 k3 k1 (fun⟨c,hc,hkc⟩=>?th) (fun free=>?fr) 100000 0 none rfl (TM _) (by lia) fun l c ks' hl0=>by lia)
 case th=>
  dsimp only;refine wpAny_pure (h1 ?_);obtain⟨q,hq,e⟩:=Td.mp (hp.mem_iff.mp hc);unfold itm at e;injection e with e1 e2
  injection e2 with e2
  refine⟨q,hq,(tupleKind (intKind prog w)).inj (hk q hq) (e2▸hkc)⟩
 case fr=>
  dsimp only;have new:∀q∈P,q.1≠ks:=fun q hq e=>by
   have hm:=hp.mem_iff.mpr (Td.mpr ⟨q,hq,rfl⟩);obtain⟨i,hi,ei⟩:=UM hm;have hi':i<es.size:=by rw[<- Te];exact hi
   have e1:es[i]?=some (itm prog w q):=by rw[S8 hi'];exact congrArg some (by simpa using ei)
   have hip:i<t.place.size:=by rw[g.sz];exact hi'
   have e2:t.place[i]?=some t.place[i]:=S8 hip;unfold itm at e1;rw[e]at e1;obtain⟨l,lK,el⟩:=rc.ahead k2 (MR e1 e2);have mem:(pth t.mask (hsh prog w ks) l).j∈t.place.toList:=k3 l lK;obtain⟨_,lv⟩:=sP g mem;have ii:below t.place (pth t.mask (hsh prog w ks) l).j=i:=by
    rw[el]at lv ⊢;have b1:=(T9.mp lv).1;have b2:=(T9.mp lv).2;rcases Nat.lt_trichotomy (below t.place t.place[i]) i with z | z | z
    ·have:=Ul.mp g.ris _ _ (by simpa using b1) (by simpa using hip) z;simp only[Vh]at this
     lia
    ·exact z
    ·have:=Ul.mp g.ris _ _ (by simpa using hip) (by simpa using b1) z;simp only[Vh]at this
     lia
   exact free l q.2 ks lK (by rw[ii];exact e1) (e▸hk q hq) rfl
  refine wpAny_bind (bC x1 g sm.le ?_);dsimp only;obtain⟨g1,m1,l1⟩:=m7 g (by have:=DZ t.mask (hsh prog w ks) K;lia) k2;have rc1:=rc.put g (x:=Tz b) k3
  generalize hes:insertAt es (t.put (pth t.mask (hsh prog w ks) K).j).2 (hsh prog w ks,Tz b)=es1 at *
  have p1:es1.toList.Perm (es.toList++[(hsh prog w ks,Tz b)]):=by rw[<- hes,cS];refine Xw.trans List.perm_middle ?_;rw[VG];exact(List.perm_append_singleton _ _).symm
  have z1:es1.size=es.size+1:=by rw[<- Te,p1.length_eq,Tg,Te];rfl
  generalize hpt:(t.put (pth t.mask (hsh prog w ks) K).j).1=t1 at *
  rw[<- z1]at g1;have JU:es1.toList.Perm ((P++[(ks,b)]).map (itm prog w)):=by rw[Tv];exact p1.trans (hp.append (.refl _))
  rw[if_pos g1.pl];refine wpAny_bind (DX hx ?_);simp only[if_true];refine wpAny_bind (wpAny_storeSet_of ho hd ?_ (fits_of_scanBound (by show es1.size<4096;lia)));have x2:cy (s.heap.update a (V2 es1 t1)) a es1 (ep+1) t1:=uO x1;have sb:=Vq s.heap a (V2 es1 t1);have keys:∀h',Vl a s.heap h'->∀q∈P++[(ks,b)],IsTupleKey (intKind prog w) h' q.1 q.2:=fun h' sb q hq=>by
   rcases Tp.mp hq with z | z
   ·exact fy (hk q z) fun o e=>(sb.2 _ (apart x1 (hk q z))).trans e
   ·rw[Th.mp z];exact fy hx fun o e=>(sb.2 _ (apart x1 hx)).trans e
  have tf:t1.tooFull=decide ((es.size+1)*5≥t.mask*3):=by unfold SetTable.tooFull SetTable.fill;rw[g1.dm,g1.sz,z1,m1];rfl
  by_cases full:(es.size+1)*5≥t.mask*3
  ·rw[tf,decide_eq_true full];simp only[Xk,Xq,if_true];obtain⟨M,wn,ns,cv,lM,sm2⟩:∃M,SetTable.sizeAbove (Xl (es.size+1))-1=M/\¬SetTable.sizeAbove (Xl (es.size+1))>sizeLine/\Cov M/\es1.size<=M/\((M=31/\es1.size<=18)\/(M=127/\es1.size<=76)):=by
    rcases sm with⟨q1,q2⟩ | ⟨q1,q2⟩ | ⟨q1,q2⟩
    ·have:es.size=4:=by lia
     exact⟨31,by rw[this];decide +kernel,by rw[this];decide +kernel,Qf,by lia,.inl ⟨rfl,by lia⟩⟩
    ·have:es.size=18:=by lia
     exact⟨127,by rw[this];decide +kernel,by rw[this];decide +kernel,MP,by lia,.inr ⟨rfl,by lia⟩⟩
    ·lia
   obtain⟨t2,order,r1,r2,r3,r4,r5,r6,r7⟩:=Bm (t:=t1) (es:=es1) (wanted:=Xl (es.size+1)) (by rw[wn];exact cv) (by rw[wn];lia) g1.pl;refine wpAny_bind ?_;unfold setRelay;refine wpAny_bind (bC (s:={ s with heap:=s.heap.update a (V2 es1 t1) }) x2 g1 (by rw[m1];rcases sm with⟨a,b⟩ | ⟨a,b⟩ | ⟨a,b⟩<;>lia) ?_);dsimp only;rw[if_neg ns];refine wpAny_bind (wpAny_of_eq (a:=(order.filterMap (es1[·]?),t2)) ?_ ?_)
   ·rw[r1];show (if ((order.filterMap (es1[·]?)).size != es1.size)=true then _ else _)=_;rw[r2];simp
   ·obtain⟨o2,ho2,hex2,hd2⟩:=id x2;dsimp only;refine wpAny_storeSet_of ho2 hd2 ?_ (by rw[r2];exact fits_of_scanBound (by show es1.size<4096;lia));have sb2:=sb.trans (Vq (s.heap.update a (V2 es1 t1)) a (V2 (order.filterMap (es1[·]?)) t2));refine wpAny_pure (h2 new _ sb2 ⟨⟨_,_,t2,uO x2,by rw[r2];exact r3,r7,?_,by rw[r5,l1,hl],r6.trans JU⟩,keys _ sb2⟩);rw[r2];exact .inr (by rw[r4,wn];exact sm2)
  ·rw[tf,decide_eq_false full];simp only[Bool.and_false,Tc,if_false];refine wpAny_pure (h2 new _ sb ⟨⟨es1,ep+1,t1,x2,g1,rc1,?_,by rw[l1,hl],JU⟩,keys _ sb⟩);unfold Small;rw[m1];rcases sm with⟨q1,q2⟩ | ⟨q1,q2⟩ | ⟨q1,q2⟩
   ·exact .inl ⟨q1,by lia⟩
   ·exact .inr (.inl ⟨q1,by lia⟩)
   ·exact .inr (.inr ⟨q1,by lia⟩)
end
open PySem PySem.SetTable PySem.W PyProof.Rows
noncomputable def dY(P:List (List Int×Addr))(q:List Int×Addr):List (List Int×Addr):=if P.any (fun p=>p.1 == q.1) then P else P++[q]
noncomputable def gh(qs:List (List Int×Addr))(i:Nat):List (List Int×Addr):=(qs.take i).foldl dY []
theorem qU{qs:List (List Int×Addr)}{i:Nat}{q:List Int×Addr}(h:qs[i]?=some q):gh qs (i+1)=dY (gh qs i) q:=by unfold gh;rw[List.take_add_one,h,List.foldl_append];rfl
section
variable{prog:Program}{w:World}{A:Around}{E:Value->Shared->Prop}{s:Shared}
theorem lU{l:Addr}{items:Array Value}{qs:List (List Int×Addr)}{K:Value->Shared->Prop}(hu:A.units+4<cLine)(hh:A.handled=none)(hl:s.heap.IsList l items)(hi:items.toList=qs.map fun q=>Tz q.2)(hq:∀q∈qs,IsTupleKey (intKind prog w) s.heap q.1 q.2)(hb:(gh qs qs.length).length<=75)
  (h:∀(h':Heap) (tk:Nat),SetT prog w h' s.heap.objs.size (gh qs qs.length)->(∀b o,b<s.heap.objs.size->s.heap.get? b=some o->h'.get? b=some o)->K (.ref s.heap.objs.size) { s with heap:=h',toks:=tk }):wpAny (model prog w) A (call (.type "set") [.ref l]) K E s:=by
 refine Bl fun led HY=>?_;obtain⟨o,ho,hc,k,hd⟩:=id hl;have ls:l<s.heap.objs.size:=S9 ho;have t1:(s.heap.push (nG led)).IsList l items:=⟨o,Ds _ ho,hc,k,hd⟩
 have g0:(s.heap.push (nG led)).get? s.heap.objs.size=some (nG led):=To _ rfl;have n1:=PySem.F.sub_list_set;have n2:=PySem.F.sub_list_frozenset;have n3:(Vv "list" == Vv "dict")=false:=by decide
 obtain⟨oc,od,odt,os⟩:=o;simp only at hc hd;subst hc hd;have ho1:(s.heap.push (nG led)).get? l=some { cls:=.type "list",dict:=od,data:=.seq items k,slots:=os }:=Ds _ ho;unfold Builtin.«set.__init__» noKeywords Builtin.Frozenset.updateFrom
 generalize hP:pyIter=PI
 wp_walk
 subst hP;refine wpAny_pyIter_list t1 (wpAny_bind (wpAny_runValue ?_));have ne:l≠(s.heap.push (nG led)).objs.size:=by rw[UT];exact Ti (UD ls)
 have off:s.heap.objs.size∉[(s.heap.push (nG led)).objs.size,l]:=fun z=>by rw[UT]at z;simp only[S4,UQ,or_false]at z;exact z.elim (Ti (Wf _)) (UC ls)
 have isz:items.size=qs.length:=by rw[<- Te,hi,Dk]
 have far:∀q∈qs,q.2∉[(s.heap.push (nG led)).objs.size]:=fun q hq' z=>by obtain⟨o,_,_,e,_⟩:=hq q hq';have:=S9 e;rw[Th.mp z,UT]at this;exact absurd this (U7.mpr (WL _))
 have sub:∀i q,q∈gh qs i->q∈qs:=fun i=>by
  have go:∀(ls:List (List Int×Addr)) tG,(∀q∈tG,q∈qs)->(∀q∈ls,q∈qs)->∀q∈ls.foldl dY tG,q∈qs:=fun ls=>by
   induction ls with
   |nil=>intro tG h1 _ q hq;exact h1 q hq
   |cons x ls ih=>
    intro tG h1 h2;refine ih _ (fun q hq=>?_) fun q hq=>h2 q (gc _ hq);unfold dY at hq;split at hq
    ·exact h1 q hq
    ·rcases Tp.mp hq with z | z
     ·exact h1 q z
     ·rw[Th.mp z];exact h2 x gV
  exact go _ [] (fun q h=>by cases h) fun q h=>VL h
 have len:∀i,(gh qs i).length<=75:=fun i=>by
  refine Tq ?_ hb;unfold gh;rw[List.take_length];have go:∀(ls:List (List Int×Addr)) tG,tG.length<=(ls.foldl dY tG).length:=fun ls=>by
   induction ls with
   |nil=>intro tG;exact PU _
   |cons x ls ih=>
    intro tG;refine Tq ?_ (ih _);unfold dY;split
    ·exact PU _
    ·rw[Tg];exact Wh _ _
  have e:WY dY [] qs=WY dY [] (qs.take i++qs.drop i):=by rw[VG]
  rw[e,List.foldl_append];exact go _ _
 refine DR (J:=fun i h=>SetT prog w h s.heap.objs.size (gh qs i)/\∀q∈qs,IsTupleKey (intKind prog w) h q.1 q.2) ((Walks.list (A:=A.in1.in1.in1) (by simp[hh]) _ l ne items).toS) off (fun i a b x e=>?_) (fun i v u E' K' hi' hv hJ hK=>?_) 0 _ (TM _)
  ⟨⟨_,To _ rfl,rfl,rfl⟩,⟨_,Ds _ ho1,rfl,k,rfl⟩⟩ ⟨⟨⟨#[],0,.fresh 0 0 led,⟨_,Ds _ g0,⟨rfl,rfl,rfl⟩,rfl⟩,x8 led,Rch.fresh led,.inl ⟨rfl,TM _⟩,HY,.refl _⟩,fun q hq=>(by cases hq)⟩,fun q h'=>fy (hq q h') fun o e=>Ds _ (Ds _ e)⟩ fun s' m hJ=>?_
 ·obtain⟨⟨⟨es,ep,t,x1,r⟩,y⟩,z⟩:=x;have kk:∀q∈qs,IsTupleKey (intKind prog w) b q.1 q.2:=fun q h'=>fy (z q h') fun o he=>e _ o (far q h') he;exact⟨⟨⟨es,ep,t,x1.at fun o h=>e _ o (fun z=>off (S4.mpr (.inl (Th.mp z)))) h,r⟩,fun q h'=>kk q (sub i q h')⟩,kk⟩
 ·have hv':items.toList[i]?=some v:=by rw[Up];exact hv
  rw[hi,TJ]at hv';cases eq:qs[i]? with
  |none=>rw[eq]at hv';cases hv'
  |some q=>
   rw[eq]at hv';cases hv';have hqm:q∈qs:=UZ eq;have hx:=hJ.2 q hqm;have l17:=len i;unfold setAdd;refine wpAny_holding (wpAny_bind ((tupleKind (intKind prog w)).pyHash (by show A.units+1+1+1<cLine;lia) hx ?_));refine HZ (s:={ u with toks:=u.toks+(tupleKind (intKind prog w)).draws q.1 }) (by show A.units+1+1+1<cLine;lia) hJ.1 hx (by lia) (fun⟨p,hp,e⟩=>?_) fun new h' sb hJ'=>?_
   ·refine hK false u.heap _ (Wh _ _) (Vl.refl _ _) ⟨?_,hJ.2⟩;rw[qU eq];unfold dY;rw[if_pos (U6.mpr ⟨p,hp,by simp[e]⟩)];exact hJ.1
   ·refine hK true h' _ (Wh _ _) sb ⟨?_,fun p hp=>?_⟩
    ·rw[qU eq];unfold dY;rw [if_neg fun z=>by
      obtain⟨p,hp,e⟩:=U6.mp z;exact new p hp (by simpa using e)]
     exact hJ'
    ·obtain⟨⟨es,ep,t,x1,_⟩,_⟩:=hJ.1;exact fy (hJ.2 p hp) fun o e=>(sb.2 _ (apart x1 (hJ.2 p hp))).trans e
 ·obtain⟨h',g',d',tk',os'⟩:=s';obtain rfl:g'=s.gens:=m.gens;obtain rfl:d'=s.drawn:=m.drawn;obtain rfl:os'=s.os:=m.os;refine wpAny_pure (wpAny_pure ⟨h',tk',rfl,rfl,h h' tk' (by rw[<- isz];exact hJ.1) fun b o lt e=>m.heap b o (fun z=>?_) (Ds _ (Ds _ e))⟩);rw[UT]at z;simp only[S4,UQ,or_false]at z;exact z.elim (Ti lt) (Ti (UD lt))
end
end Sx
namespace Br
open PySem PySem.Spec PyProof.Rows L2
def H_(prog:Program)(w:World)(h:Heap)(a:Addr)(P:List (List Int×Addr)):Prop:=∃es ep t,Sx.cy h a es ep t/\Sx.Good t es.size/\Sx.Rch t es/\Sx.Small t es.size/\(t.led=!w.params.followText "set-order")/\es.toList.Perm (P.map (Sx.itm prog w))
def zN(prog:Program)(w:World):List V->Hp->VK->Prop:=fun xs H Q=>∃(q:Addr) (qs:List (List Int×Addr)),xs=[.ref q]/\H q=some (.ext fun h=>H_ prog w h q qs)/\qs.length<=63/\(∀p∈qs,H p.2=some (.tup (p.1.map V.int))/\p.1≠[]) /\
 ∀(zs:List V) (l:Addr),zs.Perm (qs.map fun p=>V.ref p.2)->zs.Pairwise (fun y z=>∀(a b:Addr) (ks ms:List Int),y=.ref a->z=.ref b->H a=some (.tup (ks.map V.int))->H b=some (.tup (ms.map V.int))->Dm.lx ms ks=false)->H l=none->Q (.ref l) (upd H l (.lst zs))
theorem uU{X:Cx}(hcm:X.calm=true):dM X (.builtin "sorted") (zN X.prog X.w):=by
 intro sV s σ H xs us Q I r h;obtain⟨p,qs,rfl,hq,hl,hks,k⟩:=h;obtain⟨u,rfl,rx⟩:=vals1 r;cases rx;obtain⟨⟨es,ep,t,x1,g,rc,sm,led,pm⟩,_⟩:=(show aU X.prog X.w H s.heap p (.ext _) from I.hok p _ hq)
 have D9:es.size=qs.length:=by rw[<- Te,pm.length_eq,Dk]
 refine Calls.call_function_entry kind_sorted plain_sorted entry_sorted (args_sorted1 _) ?_;unfold Builtin.«sorted»;refine wpAny_bind (m:=checkCount "sorted" 1 1 _) (wpAny_pure ?_);refine wpAny_bind (PySem.W.kdu_collect (A:=X.A.in1) (Sx.HX (prog:=X.prog) (w:=X.w) (a:=p) (ep:=ep) g sm.le led) (I.ok.hd hcm) x1 (by rw[D9];exact Tq hl (by decide)) fun h' tk tG hk0 hacc=>?_);have ew:tG.toList=Sx.cY X.w p es ep:=by
  apply VC;intro i;by_cases hi:i<tG.toList.length
  ·rw[Tf hi];exact(hacc.2 i _ (by rw[<- Up,Tf hi])).symm
  ·rw[Uc (by lia),Uc (by rw[Sx.gg,<- hacc.1,<- Te];lia)]
 have wp:=Sx.qR X.w p es ep;rw[<- ew]at wp
 generalize hits:tG.toList=its at *
 have wp2:its.Perm (qs.map fun q=>Tz q.2):=by refine wp.trans ((pm.map _).trans (.of_eq ?_));rw[Uj];rfl
 have hn:its.length=qs.length:=by rw[wp2.length_eq,Dk]
 have hv:∀v∈its,∃(a:Addr) (ks:List Int),v=.ref a/\H a=some (.tup (ks.map V.int))/\ks≠[]:=fun v hm=>by obtain⟨q,hq',rfl⟩:=Td.mp (wp2.mem_iff.mp hm);exact⟨q.2,q.1,rfl,(hks q hq').1,(hks q hq').2⟩
 have key:∀v∈its,∃ks,(sI H).keyOf v=some ks:=fun v hm=>by obtain⟨a,ks,rfl,h3,_⟩:=hv v hm;refine⟨ks,?_⟩;show qe H (.ref a)=some ks;unfold qe;dsimp only;rw[h3];exact cJ ks
 have hk:KeysOf (sI H) (pairsOf its):=fun q hq=>key q.1 (kr hq).2;have look:∀(h':Heap),(∀b o,s.heap.get? b=some o->h'.get? b=some o)->∀(v:Value) (ks:List Int),qe H v=some ks->∃(a:Addr) (o:Obj) (ts:List Value) (n:Nat),v=.ref a/\h'.get? a=some o/\o.cls=.type "tuple" /\ o.data=.seq ts.toArray n/\IntsAre ts ks:=fun h' kp v ks e=>by
  unfold qe at e;split at e
  ·rename_i a;split at e
   ·rename_i xs hx;have:=nk e;subst this;obtain⟨_,ts,rt,o,ho,hc,n,hd⟩:=I.hok a _ hx;exact⟨a,o,ts,n,rfl,kp _ _ ho,hc,hd,intsAre_of rt⟩
   ·cases e
  ·cases e
 refine wpAny_bind (wpAny_newList ?_ (by rw[hn];exact Tq hl (by decide)));have hL0:(h'.push (seqObj "list" its.toArray 0)).get? h'.objs.size=some (seqObj "list" its.toArray 0):=To _ rfl;have I1:=I.kept (t':=tk) hk0;have up0:∀h2:Heap,(∀b o,b≠h'.objs.size->(h'.push (seqObj "list" its.toArray 0)).get? b=some o->h2.get? b=some o)->∀b o,s.heap.get? b=some o->h2.get? b=some o:=fun h2 kp b o e=>kp b o (Ti (S9 (hk0 _ _ e))) (Ds _ (hk0 _ _ e));refine wpAny_bind (wpAny_holding (wpAny_call_entry (s:={ s with heap:=h'.push (seqObj "list" its.toArray 0),toks:=tk }) slot_list_sort ⟨_,hL0,rfl⟩ entry_list_sort (Ts.xQ (κ:=sI H) (kd:=tuples' true) hL0 (by lia) hk (fun h2 kp0 h2' {Q'} hq'=>?_) (fun h2 kp0=>?_) fun st' hp hs=>⟨_,rfl,?_⟩) (args_list_sort _)))
 ·-- the kind
  have tups:∀l:List Value,(∀v∈l,∃(a:Addr) (ks:List Int),v=.ref a/\H a=some (.tup (ks.map V.int))/\ks≠[])->∃fs,PySem.W.KatTups h2 l fs/\fs.length=l.length/\∀f∈fs,∃n t,f=Vj n t:=fun l=>by
   induction l with
   |nil=>intro _;exact⟨[],.nil,rfl,fun f hf=>by cases hf⟩
   |cons v l ih=>
    intro hl';obtain⟨a,ks,rfl,h3,h4⟩:=hl' v gV;obtain⟨fs,t,lf,hf⟩:=ih fun z hz=>hl' z (gc _ hz);obtain⟨a',o,ts,n,e,ho,hc,hd,hi⟩:=look h2 (up0 h2 kp0) (.ref a) ks (by unfold qe;dsimp only;rw[h3];exact cJ ks);cases e;cases hi with
    |nil=>exact absurd rfl h4
    |cons m t' hi'=>
     refine⟨_::fs,.cons ho hc hd (f:=.int m t') (by simp) t,by simp[lf],fun f hm=>?_⟩;rcases S4.mp hm with rfl | hm
     ·exact⟨_,_,rfl⟩
     ·exact hf f hm
  obtain⟨fs,t,lf,hf⟩:=tups its hv;refine PySem.W.kat_kind (s:={ s with heap:=h2,toks:=tk }) (T:=.type "int") t (by lia) (fun f hm=>?_) (by rfl) ?_
  ·obtain⟨n,tk,rfl⟩:=hf f hm;exact .now
  ·exact hq'
 ·refine qL fun x y a b {Q'} {E''} ha hb q=>?_;obtain⟨ax,ox,tx,nx,ex,hx,_,dx,ix⟩:=look h2 (up0 h2 kp0) x.1 a ha;obtain⟨ay,oy,ty,ny,ey,hy,_,dy,iy⟩:=look h2 (up0 h2 kp0) y.1 b hb;rw[ex,ey];refine PySem.W.kat_lt (s:={ s with heap:=h2,toks:=tk }) hx dx hy dy ?_;exact uG 0 ix iy (by rw[S6,S6,ix.length,iy.length]) q
 ·obtain⟨out,eo,po,so⟩:=MB hk hp hs;rw[eo];obtain⟨c,hc⟩:=sortedHeap_at (out:=out.toArray) hL0;have vo:∀l:List Value,(∀v∈l,∃(a:Addr) (ks:List Int),v=.ref a/\H a=some (.tup (ks.map V.int))/\ks≠[])->Vals (l.map bk) l:=fun l=>by
   induction l with
   |nil=>intro _;exact .nil
   |cons v l ih=>intro hl';obtain⟨a,ks,rfl,_⟩:=hl' v gV;exact .cons rfl (ih fun z hz=>hl' z (gc _ hz))
  have hvo:=vo out fun v hm=>hv v (po.mem_iff.mp hm);have hz2:(out.map bk).length<=sizeLine:=by rw[Dk,po.length_eq,hn];exact Tq hl (by decide)
  refine wpAny_pure ⟨_,rfl,.ref h'.objs.size,_,I1.laid (t':=tk) (fun b o e=>?_) (PU _) (show aU X.prog X.w _ _ _ (.lst (out.map bk)) from ⟨hz2,out,c,hvo,by simpa using hc⟩),rfl,k _ _ ?_ ?_ (I1.hok.fresh (PU _))⟩
  ·have lt:=S9 e;rw[sortedHeap_old (Ti lt) (by rw[size_push'];exact UD lt)];exact Ds _ e
  ·have:=(po.trans wp2).map bk;rw[Uj]at this;exact this
  ·rw[U3];refine VS ?_ so;intro x y hx hy hle a b ks ms e1 e2 h1 h2;obtain⟨a',ks',rfl,h1',_⟩:=hv x (po.mem_iff.mp hx);obtain⟨b',ms',rfl,h2',_⟩:=hv y (po.mem_iff.mp hy);cases e1;cases e2;refine hle ks ms ?_ ?_
   ·show qe H (.ref a)=some ks;unfold qe;dsimp only;rw[h1];exact cJ ks
   ·show qe H (.ref b)=some ms;unfold qe;dsimp only;rw[h2];exact cJ ms
theorem uV{prog:Program}{w:World}:∀{ks:List Int} {its:List Value},Vals (ks.map V.int) its->ItemsAre (intKind prog w) ks its
 |[],_,r=>by cases r;exact .nil
 |n::ks,_,r=>by
  rw[eg]at r;cases r with
  |cons h t=>obtain⟨tk,rfl⟩:=h;exact .cons (intKind_is prog w n tk) (uV t)
theorem zO:∀{qs:List (List Int×Addr)} {its:List Value},Vals (qs.map fun p=>V.ref p.2) its->its=qs.map fun p=>Tz p.2
 |[],_,r=>by cases r;rfl
 |q::qs,_,r=>by
  rw[eg]at r;cases r with
  |cons h t=>rw[zO t];cases h;rfl
def D0(K:Dp)(prog:Program)(w:World):List V->Hp->VK->Prop:=fun xs H Q=>∃(q:Addr) (qs:List (List Int×Addr)),xs=[.ref q]/\SqL K H q (qs.map fun p=>V.ref p.2)/\(∀p∈qs,H p.2=some (.tup (p.1.map V.int)))/\(Sx.gh qs qs.length).length<=63 /\
 ∀l,H l=none->Q (.ref l) (upd H l (.ext fun h=>H_ prog w h l (Sx.gh qs qs.length)))
theorem x_{X:Cx}(hc:X.calm=true)(hu:X.A.units+4<cLine):dM X (.type "set") (D0 X.K X.prog X.w):=by
 intro sV s σ H xs us Q I r h;obtain⟨q,qs,rfl,hq,hk,hb,k⟩:=h;obtain⟨u,rfl,rx⟩:=vals1 r;cases rx;obtain⟨its,rv,pl,hz⟩:=I.list hq;refine Sx.lU (qs:=qs) hu (I.ok.hd hc) pl.isList (by simpa using zO rv) (fun p hp=>?_) (Tq hb (by decide)) fun h' tk hS hkeep=>?_
 ·obtain⟨_,ts,rt,o,ho,hcl,n,hd⟩:=(show aU X.prog X.w H s.heap p.2 (.tup (p.1.map V.int)) from I.hok p.2 _ (hk p hp))
  exact⟨o,ts.toArray,n,ho,hcl,hd,by simpa using uV rt⟩
 ·exact ⟨.ref s.heap.objs.size,_,I.laid (a:=s.heap.objs.size) (o:=.ext fun h=>H_ X.prog X.w h s.heap.objs.size (Sx.gh qs qs.length)) (t':=tk) (fun b u e=>hkeep b u (S9 e) e) (PU _)
   (show aU X.prog X.w _ _ _ (.ext _) from ⟨hS.1,(let ⟨_,_,_,⟨o,ho,_⟩,_⟩:=hS.1;⟨o,ho⟩),fun h1 h2 x e=>let ⟨es,ep,t,x1,r⟩:=x;⟨es,ep,t,x1.at e,r⟩⟩),rfl,k _ (I.hok.fresh (PU _))⟩
end Br
namespace Dm
noncomputable def fF(nss:List (List Int)):List (List Int):=nss.foldl (fun tG x=>if tG.any (· == x) then tG else tG++[x]) []
noncomputable def dI:Dat->Option RV
 | .lst ds=>(match ng ds with
  |some nss=>if (fF nss).length<=63 then some (.new (.lst ((bg lx (fF nss)).map Bd))) else none
  |none=>none)
 |_=>none
end Dm
namespace Br
open PySem PySem.Spec PyProof.Rows L2
theorem uW(qs:List (List Int×Addr)):(Sx.gh qs qs.length).map (·.1)=Dm.fF (qs.map (·.1)):=by
 unfold Sx.gh Dm.fF;rw[List.take_length];have go:∀(l:List (List Int×Addr)) (tG:List (List Int×Addr)),(l.foldl Sx.dY tG).map (·.1)=(l.map (·.1)).foldl (fun tG x=>if tG.any (· == x) then tG else tG++[x]) (tG.map (·.1)):=fun l=>by
  induction l with
  |nil=>intro tG;rfl
  |cons q l ih=>
   intro tG;rw[Vx,eg,Vx,ih]
   congr 1
   unfold Sx.dY;rw[List.any_map];show List.map _ (if (tG.any fun p=>p.1 == q.1)=true then _ else _)=if (tG.any fun p=>p.1 == q.1)=true then _ else _
   split
   ·rfl
   ·rw[Tv];rfl
 exact go qs []
theorem sQ(qs:List (List Int×Addr))(i:Nat):∀q∈Sx.gh qs i,q∈qs:=by
 have go:∀(ls:List (List Int×Addr)) tG,(∀q∈tG,q∈qs)->(∀q∈ls,q∈qs)->∀q∈ls.foldl Sx.dY tG,q∈qs:=fun ls=>by
  induction ls with
  |nil=>intro tG h1 _ q hq;exact h1 q hq
  |cons x ls ih=>
   intro tG h1 h2;refine ih _ (fun q hq=>?_) fun q hq=>h2 q (gc _ hq);unfold Sx.dY at hq;split at hq
   ·exact h1 q hq
   ·rcases Tp.mp hq with z | z
    ·exact h1 q z
    ·rw[Th.mp z];exact h2 x gV
 exact go _ [] (fun q h=>by cases h) fun q h=>VL h
theorem JV{H0:Hp}:∀{ds:List Dat} {us:List V} {nss:List (List Int)},aD H0 us ds->Dm.ng ds=some nss->∃qs:List (List Int×Addr),us=qs.map (fun p=>V.ref p.2)/\nss=qs.map (·.1)/\∀p∈qs,H0 p.2=some (.tup (p.1.map V.int))/\p.1≠[]
 |[],_,nss,r,e=>by cases r;cases e;exact⟨[],rfl,rfl,fun p h=>by cases h⟩
 |d::ds,_,nss,r,e=>by
  cases r with
  |cons h t=>
   cases d with
   |tup xs=>
    unfold Dm.ng at e;cases q1:Dm.fN xs with
    |none=>rw[q1]at e;cases e
    |some ns=>
     rw[q1]at e;dsimp only at e;split at e
     ·cases e
     ·rename_i J5;cases q2:Dm.ng ds with
      |none=>rw[q2]at e;cases e
      |some mss=>
       rw[q2]at e;cases e;obtain⟨qs,a1,a2,a3⟩:=JV t q2;cases h with
       |tup ha hr=>
        rename_i b ys;have:=m8 hr q1;subst this;refine⟨(ns,b)::qs,by rw[eg,<- a1],by rw[eg,<- a2],fun p hp=>?_⟩;rcases S4.mp hp with z | z
        ·rw[z];exact ⟨ha,fun z=>by have z:ns=[]:=z;rw[z]at J5;exact J5 rfl⟩
        ·exact a3 p z
   |_=>cases e
section
variable{X:Cx}{e:Expr}{f:FE}{p p0 pos kj:Pos}
theorem ya{K:Dp}{prog:Program}{w:World}{σ:L2.St}{H:Hp}{Q:VK}(h:tD (Dm.e1 Dm.dI f) σ H Q):tCB (zN prog w) (qt (tCB (D0 K prog w) (qt (tD f) xu)) xu) σ H Q:=by
 obtain⟨H0,ρ,x,ρ',st,e,k⟩:=h;unfold Dm.e1 at e;split at e
 ·cases e
 rename_i x1 ρ1 e1;split at e
 ·cases e
 rename_i dx p1;split at e
 ·cases e
 rename_i z gz;cases e;unfold Dm.dI at gz;split at gz
 case h_2=>cases gz
 rename_i ds;split at gz
 case h_2=>cases gz
 rename_i nss en;split at gz
 case isFalse=>cases gz
 rename_i hb;cases gz;refine⟨H0,ρ,x1,_,st,e1,fun v H1 Hb t1 r1=>?_⟩;obtain⟨a,xs,rfl,qa,ra⟩:=bD t1.st.same (r1.look t1.st p1);obtain⟨qs,rfl,rfl,hq⟩:=JV ra en;rw[<- uW,Dk]at hb;refine⟨a,qs,rfl,.inl qa,fun p hp=>t1.st.same _ _ (hq p hp).1,hb,fun l hl=>?_⟩;have ne:∀p∈qs,p.2≠l:=fun p hp z=>by have:=t1.st.same _ _ (hq p hp).1;rw[z,hl]at this;cases this
 refine⟨l,Sx.gh qs qs.length,rfl,aq,?_,fun p hp=>?_,fun zs l2 pm so hp=>?_⟩
 ·omega
 ·have hm:=sQ qs _ p hp;exact⟨by rw[aj (ne p hm)];exact t1.st.same _ _ (hq p hm).1,(hq p hm).2⟩
 ·let ks:V->List Int:=fun v=>match v with
   | .ref b=>(match H1 b with
    |some (.tup ys)=>(f9 ys).getD []
    |_=>[])
   |_=>[]
  have hks:∀p∈qs,ks (.ref p.2)=p.1:=fun p hp=>by show (match H1 p.2 with | some (.tup ys)=>(f9 ys).getD [] | _=>[])=p.1;rw[(hq p hp).1];dsimp only;rw[cJ];rfl
  have hz:∀y∈zs,∃b:Addr,y=.ref b/\H1 b=some (.tup ((ks y).map V.int)):=fun y hy=>by obtain⟨p,hp',rfl⟩:=Td.mp (pm.mem_iff.mp hy);have hm:=sQ qs _ p hp';exact⟨p.2,rfl,by rw[hks p hm];exact(hq p hm).1⟩
  have pk:(zs.map ks).Perm (Dm.fF (qs.map (·.1))):=by refine(pm.map ks).trans (.of_eq ?_);rw[Uj,<- uW];exact UN fun p hp'=>hks p (sQ qs _ p hp')
  have srt:(zs.map ks).Pairwise (fun a b=>Dm.lx b a=false):=by
   rw[U3];refine VS ?_ so;intro x y hx hy hle;obtain⟨b1,q1,q2⟩:=hz x hx;obtain⟨b2,q3,q4⟩:=hz y hy;have n1:b1≠l:=fun z=>by have:=t1.st.same _ _ q2;rw[z,hl]at this;cases this
   have n2:b2≠l:=fun z=>by have:=t1.st.same _ _ q4;rw[z,hl]at this;cases this
   exact hle b1 b2 _ _ q1 q3 (by rw[aj n1];exact t1.st.same _ _ q2) (by rw[aj n2];exact t1.st.same _ _ q4)
  have es:zs.map ks=Dm.bg Dm.lx (Dm.fF (qs.map (·.1))):=by
   refine Dm.dX (lt:=Dm.lx) Dm.eT (pk.trans (Dm.bA _ _).symm) srt (Dm.bP (fun a b c h1 h2=>?_) (fun a b h=>?_) _)
   ·cases h:Dm.lx c a
    ·rfl
    ·rcases Dm.sG c b a h with z | z
     ·rw[z]at h2;cases h2
     ·rw[z]at h1;cases h1
   ·cases h':Dm.lx b a
    ·rfl
    ·have:=Dm.eS a b a h h';rw[Dm.dH]at this;cases this
  have g1:=aQ.lQ (o:=.ext fun h=>H_ prog w h l (Sx.gh qs qs.length)) t1.st.same hl;have t2:=t1.trans (.grow t1.st g1);have g2:=aQ.lQ (o:=.lst zs) t2.st.same hp;refine k _ _ _ (t2.trans (.grow t2.st g2)) ⟨l2,rfl,t2.stp.gone hp,t2.st.b7 hp,t2.st.same.free hp,_,aq,?_⟩;rw[<- es];exact qM ks hz
theorem yb{kk:Nat}(hr:aX kk X.A)(hc:X.calm=true)(hgl:Gl X "sorted")(hml:X.mg "sorted" = none)(hg:Gl X "set")(hm:X.mg "set" = none)(h:DE X e f)(hs:starEach [e] X.env=[(false,eval e X.env)]:=by rfl)
  (hs0:starEach [.Call (.Name "set" p) [e] [] pos] X.env=[(false,eval (.Call (.Name "set" p) [e] [] pos) X.env)]:=by rfl) (Fd:(backTo pos (starEach [] X.env)).any (·.1)=false:=by rfl) (Se:(backTo kj (starEach [] X.env)).any (·.1)=false:=by rfl) :
  DE X (.Call (.Name "sorted" p0) [.Call (.Name "set" p) [e] [] pos] [] kj) (Dm.e1 Dm.dI f):=
 PE.weak (mK (uU hc) hgl hml boot_sorted (ju (qz (x_ hc (US (Nat.add_le_add_left (by decide) _) hr.units)) hg hm (by rfl) (ju h mH hs) (he:=hs) (Fd:=Fd)) mH hs0) (he:=hs0) (Fd:=Se)) fun _ _ _=>ya
end
end Br
namespace Dm
noncomputable def qV:Dat->Dat->Option RV
 |.tup xs,.tup (y::ys)=>if xs.length+(y::ys).length<=SZ then some (.val (.tup (xs++(y::ys)))) else none
 |_,_=>none
end Dm
namespace Br
open PySem PySem.Spec PyProof.Rows L2
def JX:R2:=fun x y H Q=>∃l b xs zs,x=.ref l/\y=.ref b/\H l=some (.tup xs)/\H b=some (.tup zs)/\zs≠[]/\xs.length+zs.length<=sizeLine/\(xs=[]->Q (.ref b) H)/\(xs≠[]->∀p,H p=none->Q (.ref p) (upd H p (.tup (xs++zs))))
theorem Ia{X:Cx}:OpR X (binaryOp .Add) JX:=by
 intro sV s σ H x y v u Q I rx ry h;obtain⟨l,b,xs,zs,rfl,rfl,hH,hB,n2,hz,q0,q⟩:=h;cases rx;cases ry;obtain⟨z1,its,r1,⟨⟨cls,dd,data,sl⟩,ho,hc,n,hd⟩⟩:=(show aU X.prog X.w H s.heap l (.tup xs) from I.hok l _ hH)
 obtain⟨z2,its2,r2,⟨⟨SV,dd2,data2,sl2⟩,ho2,hc2,n',hd2⟩⟩:=(show aU X.prog X.w H s.heap b (.tup zs) from I.hok b _ hB)
 simp only at hc hd hc2 hd2;subst hc hd hc2 hd2;have e:its.toArray++its2.toArray=(its++its2).toArray:=by simp
 have hl:=r1.length;have hl2:=r2.length;have m2:its2≠[]:=fun y=>n2 (Vu.mp (by rw[hl2,y];rfl));by_cases n1:xs=[]
 ·have m1:its=[]:=Vu.mp (by rw[<- hl,n1];rfl);exact concat_meets ⟨_,ho,rfl⟩ ⟨_,ho2,rfl⟩ noFill_tuple_add seq_tuple_add PySem.F.slot_tuple_add PySem.F.entry_tuple_add (PySem.F.args_tuple_add_2 _ _)
   (tuple_addW0 l b its.toArray its2.toArray n n' dd dd2 sl sl2 (by simp[m1])) ⟨ho,ho2,.ref b,H,I,rfl,q0 n1⟩
 ·have m1:its≠[]:=fun y=>n1 (Vu.mp (by rw[hl,y];rfl));refine concat_meets ⟨_,ho,rfl⟩ ⟨_,ho2,rfl⟩ noFill_tuple_add seq_tuple_add PySem.F.slot_tuple_add PySem.F.entry_tuple_add (PySem.F.args_tuple_add_2 _ _)
   (tuple_addW2 l b its.toArray its2.toArray n n' dd dd2 sl sl2 (by simpa using m1) (by simpa using m2) (by rw[S6,S6];lia)) ⟨ho,ho2,?_⟩
  rw[e];refine⟨.ref _,_,I.laid (t':=s.toks) (fun _ _ q=>Ds _ q) (PU _) (show aU X.prog X.w _ _ _ (.tup (xs++zs)) from ⟨by rw[Tg];exact hz,its++its2,r1.append r2,⟨_,To _ rfl,rfl,0,rfl⟩⟩),rfl,q n1 _ I.fresh⟩
theorem Ib:OpD JX Dm.qV:=by
 intro H0 H x y dx dy z Q s rx ry e k;unfold Dm.qV at e;split at e
 ·rename_i xs y1 ys;split at e
  case isFalse=>cases e
  rename_i hz;cases e;have r0:Rep H0 y (.tup (y1::ys)):=by
   rcases ry with r | ⟨a,_,w⟩
   ·exact r
   ·exact T8 w
  obtain⟨a,us,rfl,qa,ra⟩:=eL s rx;obtain⟨b,ws,rfl,qb,rb⟩:=eL s ry;have la:=ra.length;have lb:=rb.length;refine⟨a,b,us,ws,rfl,rfl,qa,qb,fun q=>(by rw[q]at lb;cases lb),by rw[la,lb];exact jD hz,fun q=>?_,fun _ p hp=>?_⟩
  ·subst q;cases ra;exact k _ _ _ (aQ.refl s) r0
  ·have g:=aQ.CF (o:=.tup (us++ws)) s hp;exact k _ _ _ g (.tup aq ((ra.append rb).mono g.s0))
 ·cases e
section
variable{X:Cx}{pos:Pos}
theorem MT{a b:Expr}{fa fb:FE}(ha:DE X a fa)(hb:DE X b fb):DE X (.BinOp a .Add b pos) (Dm.e2 Dm.qV fa fb):=p_ Ia Ib ha hb
end
end Br
namespace Dm
noncomputable def kG(j:Nat)(f:FE):FE:=fun ρ=>
 match ρ[j]? with
 |some (.ow d)=>f (ρ.set j (.sh d))
 |_=>none
end Dm
namespace Br
open PySem PySem.Spec PyProof.Rows L2
theorem Ic{j:Nat}{f:FE}{σ:L2.St}{H:Hp}{Q:VK}(h:tD (Dm.kG j f) σ H Q):tD f σ H Q:=by
 obtain⟨H0,ρ,x,ρ',st,e,k⟩:=h;unfold Dm.kG at e;split at e
 case h_2=>cases e
 rename_i d hj;obtain⟨a,q,n,w⟩:=st.ow j d hj;obtain⟨H1,t1,_,_,_,_⟩:=take1 (x:=.slot j) (d:=d) (ρ':=ρ.set j (.sh d)) (ESt.refl st) (au.refl _) ⟨q,trivial⟩ (by unfold Dm.tk;dsimp only;rw[hj]);exact⟨H1,_,x,ρ',t1.st,e,fun v H0' H' t r=>k v H0' H' (t1.trans t) r⟩
section
variable{X:Cx}{e:Expr}{f:FE}
theorem Ie(j:Nat)(h:DE X e f):DE X e (Dm.kG j f):=PE.weak h fun _ _ _=>Ic
end
open PySem L2
structure aZ(K:Dp)(x:Str)(st:Stmt)(a:Addr)(fd:FuncData):Prop where
 e:T7 K mainGlobals x=some (some (.ref a))
 F:Fun K x x st a fd
variable{K:Dp}{x:Str}{st:Stmt}{a:Addr}{fd:FuncData}{hp:Heap}{mg:Str->Option Value}
theorem aJ{oc:Value}{od an:Option Addr}{osl:Array (Option Value)}{kV doc pm cdv ct:Value}(e:T7 K mainGlobals x=some (some (.ref a)))
  (l:K.lookup a=some ⟨oc,od,.func (TR x x (aS st) (aO st) (af st) .none kV doc pm an cdv ct),osl⟩) (c:Vk K cdv x=true) (k:Ut K (.ref a)=true) :
  aZ K x st a (TR x x (aS st) (aO st) (af st) .none kV doc pm an cdv ct):=⟨e,LO l c k⟩
theorem mgo{v:Value}(X:K.In hp)(G:hp.Ns mainGlobals mg)(e:T7 K mainGlobals x=some (some v)):mg x=some v:=PySem.W.mg_of X G e
theorem mno(X:K.In hp)(G:hp.Ns mainGlobals mg)(e:T7 K mainGlobals x=some none):mg x=none:=PySem.W.mg_none_of X G e
theorem aZ.m(h:aZ K x st a fd)(X:K.In hp)(G:hp.Ns mainGlobals mg):mg x=some (.ref a):=PySem.W.mg_of X G h.e
theorem aZ.Sf{y:Str}(h:aZ K x st a fd)(hb:∀(kV doc pm:Value) (an:Option Addr) (cdv ct v:Value),bindArgs (TR x x (aS st) (aO st) (af st) .none kV doc pm an cdv ct) ⟨[v],[]⟩=pure [(y,v)])(s:Shared)(v:Value):BindsTo s fd ⟨[v],[]⟩ [(y,v)]:=by obtain⟨oc,od,kV,doc,pm,an,cdv,ct,osl,rfl,lk,J2⟩:=h.F.ex;exact .of_eq (hb kV doc pm an cdv ct v)
theorem hm{j k:Nat}{A:Around}(r:aX k A)(h:j<=k:=by decide):aX j A:=r.mono h
theorem fsc{N P:List Str}{sc:Scope}(h1:sc.kind=.function:=by rfl)(h2:sc.isCoroutine=false:=by rfl)(h3:sc.isGenerator=false:=by rfl)(h4:N.take P.length=P:=by rfl)(h:N.Nodup/\(∀x∈P,sc.names.lookup x=some .local\/sc.names.lookup x=some .cell)/\∀y∈sc.names,y.2≠.free:=by decide +kernel):ak N P sc:=⟨h1,h2,h3,h.1,h4,h.2.1,h.2.2⟩
end Br
set_option maxHeartbeats 4000000
namespace Ts
open PySem PyProof.Rows
variable{A:Around}{E:Value->Shared->Prop}{s:Shared}{prog:Program}{w:World}
def sS(prog:Program)(w:World)(A:Around)(E:Value->Shared->Prop)(s:Shared)(κ:KeyKind)(kd:SortKind)(a₀:Array Keyed):Prop:=
 1<=a₀.size->∀(st:SortSt),SB kd a₀ st->pendingOf st=#[]->∀Q:Unit->SortSt->Prop,(∀st',SB kd a₀ st'->Seg κ (arrOf st') 0 a₀.size->Q () st')->wpS (model prog w) A E s sortRuns' Q st
theorem sS.short{κ:KeyKind}{kd:SortKind}{a₀:Array Keyed}(hL:qd (model prog w) A E s κ kd)(h0:KeysOf κ a₀)(h64:a₀.size<64):sS prog w A E s κ kd a₀:=fun h1 _ hB hp _ h=>m9 hL h0 hB hp h1 h64 h
def Qj(prog:Program)(w:World)(A:Around)(E:Value->Shared->Prop)(a kS:Addr)(vs keys:List Value)(R:Heap->Prop)(s':Shared):Prop:=
 ∃(κ:KeyKind) (kd:SortKind),KeysOf κ (keys.toArray.zip vs.toArray)/\(2<=vs.length->∀Q:SortKind->Shared->Prop,Q kd s'->wpAny (model prog w) A (keyKind' keys.toArray) Q E s')/\sS prog w A E s' κ kd (keys.toArray.zip vs.toArray) /\
  ∀(xs:Array Keyed) (h'':Heap),xs.Perm (keys.toArray.zip vs.toArray)->Seg κ xs 0 xs.size->(∀b o,b≠a->b≠kS->s'.heap.get? b=some o->h''.get? b=some o)->s'.heap.objs.size<=h''.objs.size->(∃c,h''.get? a=some (seqObj "list" (xs.map (·.2)) c))->R h''
theorem D3{a:Addr}{f:Value}{vs:List Value}{n:Nat}{R:PySem.Fin->Shared->Prop}(J:Addr->Shared->List Value->Prop)
  (ho:s.heap.get? a=some (seqObj "list" vs.toArray n)) (hn:vs.length<=100000)
  (start:∀h',(∀b o,b≠a->s.heap.get? b=some o->h'.get? b=some o)->(∃o,h'.get? a=some o)->(∃o,h'.get? (s.heap.objs.size+1)=some o)->J (s.heap.objs.size+1) { s with heap:=h' } [])
  (MU:∀s' h'' keys,J (s.heap.objs.size+1) s' keys->(∀b o,b≠a->b≠s.heap.objs.size+1->s'.heap.get? b=some o->h''.get? b=some o)->(∃o,h''.get? a=some o)->(∃o,h''.get? (s.heap.objs.size+1)=some o)->J (s.heap.objs.size+1) { s' with heap:=h'' } keys)
  (turn:∀ i v keys s',vs[i]?=some v→keys.length=i→J (s.heap.objs.size+1) s' keys →
   wpAny (model prog w) A (call f [v]) (fun k s''=>J (s.heap.objs.size+1) s'' (keys++[k])/\∀b o,(b=a\/b=s.heap.objs.size+1)->s'.heap.get? b=some o->s''.heap.get? b=some o) (fun _ _=>False) s')
  (Fp:∀s' keys,J (s.heap.objs.size+1) s' keys->keys.length=vs.length->Qj prog w A E a (s.heap.objs.size+1) vs keys (fun h''=>R (.done (.ret .none)) { s' with heap:=h'' }) s') :
  wpAny (model prog w) A (ksk_tree a f false) R E s:=by
 have ha:a<s.heap.objs.size:=S9 ho;obtain⟨e1,ho1⟩:∃e1,(s.heap.update a (T5 fun _=>(#[]:Array Value))).get? a=some (seqObj "list" #[] e1):=⟨_,get?_update_seq ho fun _=>#[]⟩
 have hkS:((s.heap.update a (T5 fun _=>(#[]:Array Value))).push (seqObj "tuple" vs.toArray 0)).objs.size=s.heap.objs.size+1:=by rw[size_push',Vp]
 unfold ksk_tree;refine wpAny_bind (listItems_at ho rfl ?_);refine wpAny_bind (listUpdate_at ho rfl ?_ (by rw[S6,sizeLine_eq];lia) (TM _));refine wpAny_bind (seqEpoch_at ho1 rfl ?_);refine wpAny_bind (wpAny_newTuple ?_ (by show vs.length<=_;rw[sizeLine_eq];lia));refine wpAny_bind (wpAny_newList ?_ (TM _));refine wpAny_holding ?_;dsimp only;rw[hkS];have hka:s.heap.objs.size+1≠a:=UC (UD ha);have hA3:(((s.heap.update a (T5 fun _=>(#[]:Array Value))).push (seqObj "tuple" vs.toArray 0)).push (seqObj "list" #[] 0)).get? a=some (seqObj "list" #[] e1):=Ds _ (Ds _ ho1);have hK3:(((s.heap.update a (T5 fun _=>(#[]:Array Value))).push (seqObj "tuple" vs.toArray 0)).push (seqObj "list" #[] 0)).get? (s.heap.objs.size+1)=some (seqObj "list" #[] 0):=by rw[<- hkS];exact To _ rfl
 have hz3:s.heap.objs.size+1<(((s.heap.update a (T5 fun _=>(#[]:Array Value))).push (seqObj "tuple" vs.toArray 0)).push (seqObj "list" #[] 0)).objs.size:=by rw[size_push',hkS];exact Wf _
 have hJ:=start _ (fun b o hb e=>Ds _ (Ds (h:=s.heap.update a (T5 fun _=>(#[]:Array Value))) _ (by rw[Ux _ _ _ _ hb];exact e))) ⟨_,hA3⟩ ⟨_,hK3⟩
 generalize (((s.heap.update a (T5 fun _=>(#[]:Array Value))).push (seqObj "tuple" vs.toArray 0)).push (seqObj "list" #[] 0))=h3 at hA3 hK3 hJ
 generalize hkk:s.heap.objs.size+1=kS at *
 unfold ksk_rest;refine wpAny_bind (wpAny_rule ?_)
 first
  |rw[List.forIn_toArray]
  |(rw[<- VY];simp only[List.toList_toArray])
  |rw[<- VY]
 refine wpAny_bind (ksk_fold (fun i s'=>∃ keys e,J kS s' keys∧keys.length=i∧s'.heap.get? kS=some (seqObj "list" keys.toArray e)∧s'.heap.get? a=some (seqObj "list" #[] e1)) vs 0 _
  ⟨[],0,hJ,rfl,hK3,hA3⟩ ?step ?done)
 case step=>
  rintro j x s' hx ⟨keys,e,hj,hl,hk,hA⟩;simp only[Vn]at hl ⊢;have hjl:j<vs.length:=(S7.mp hx).1;refine wpAny_bind (wpAny_attempt (wpAny_mono (turn j x keys s' hx hl hj) (fun v s'' he=>?_) fun _ _ hF=>hF.elim));obtain⟨hj',kp⟩:=he;have hk':=kp kS _ (.inr rfl) hk;have hA':=kp a _ (.inl rfl) hA
  try dsimp only
  obtain⟨c2,hc2⟩:∃c2,(s''.heap.update kS (T5 (·.push v))).get? kS=some (seqObj "list" (keys.toArray.push v) c2):=⟨_,get?_update_seq hk' (·.push v)⟩
  refine wpAny_bind (listUpdate_at hk' rfl ?_ (by rw[S6,sizeLine_eq];lia) (Tq (W0 (Array.size_push ..)) (by rw[S6,sizeLine_eq];lia)));refine wpAny_pure ⟨rfl,keys++[v],c2,MU _ _ _ hj' (fun b o _ hb e=>by rw[Ux _ _ _ _ hb];exact e) ⟨_,(by rw[Ux _ _ _ _ hka.symm];exact hA')⟩ ⟨_,hc2⟩,by rw[Tg,hl];rfl,?_,?_⟩
  ·rw[hc2];simp
  ·show (s''.heap.update kS _).get? a=_;rw[Ux _ _ _ _ hka.symm];exact hA'
 case done=>
  rintro s' ⟨keys,e,hj,hl,hk,hA⟩;rw[Vn]at hl
  try dsimp only
  refine wpAny_bind (listItems_at hk rfl ?_);obtain⟨κ,kd,hKK,hkd,hL,hR⟩:=Fp s' keys hj hl;have hzs:(keys.toArray.zip vs.toArray).size=vs.length:=by rw[Array.size_zip,S6,S6,hl,Nat.min_self]
  have tail:∀st':SortSt,failedOf st'=none->(arrOf st').Perm (keys.toArray.zip vs.toArray)->Seg κ (arrOf st') 0 (arrOf st').size->wpAny (model prog w) A (ksk_tail a false e1 (.ref kS) st') R E s':=fun st' hf hp hs=>by
   unfold ksk_tail
   try dsimp only
   have hA1:(s'.heap.update kS (T5 fun _=>(#[]:Array Value))).get? a=some (seqObj "list" #[] e1):=by rw[Ux _ _ _ _ hka.symm];exact hA
   refine wpAny_bind (listUpdate_at hk rfl ?_ (by rw[S6,sizeLine_eq];lia) (TM _));refine wpAny_bind (wpAny_letGo ?_);refine wpAny_bind (seqEpoch_at hA1 rfl ?_);have hsz:((arrOf st').map (·.2)).size=vs.length:=by rw[V0,hp.size_eq,hzs]
   refine wpAny_bind (listUpdate_at hA1 rfl ?_ (TM _) (Tq (W0 (by simp only[Tc,if_false];exact hsz)) (by rw[sizeLine_eq];lia)));rw[hf];simp only[bne_self_eq_false,Tc,if_false];refine wpAny_pure (hR _ _ hp hs (fun b o b1 b2 eb=>?_) ?_ ?_)
   ·rw[Ux _ _ _ _ b1,Ux _ _ _ _ b2];exact eb
   ·rw[Vp,Vp];exact PU _
   ·exact⟨_,get?_update_seq hA1 fun _=>(arrOf st').map (·.2)⟩
  unfold ksk_end
  try dsimp only
  simp only[Tc,if_false];by_cases h2:vs.toArray.size<2
  ·rw[if_pos h2,if_pos h2];refine wpAny_bind (wpAny_pure ?_);rw[StateT.run_pure];refine wpAny_bind (wpAny_pure ?_)
   try dsimp only
   refine tail (WZ general' (keys.toArray.zip vs.toArray) #[] 7 none) rfl (Array.Perm.refl _) fun p q _ h2' h3=>?_;have h3':q<(keys.toArray.zip vs.toArray).size:=h3;rw[hzs]at h3';rw[S6]at h2;have:p=q:=by lia
   subst this;exact UI _
  ·rw[if_neg h2,if_neg h2];rw[S6]at h2;refine wpAny_bind (hkd (by lia) _ ?_);refine wpAny_bind (wpAny_mono (hL (by rw [hzs];lia) (WZ kd (keys.toArray.zip vs.toArray) #[] 7 none) ⟨Array.Perm.refl _,rfl,rfl⟩ rfl
    (fun _ st'=>(arrOf st').Perm (keys.toArray.zip vs.toArray)/\failedOf st'=none/\Seg κ (arrOf st') 0 (keys.toArray.zip vs.toArray).size) fun st' sb sg=>⟨sb.perm,sb.failed,sg⟩) ?_ fun _ _ e=>e)
   rintro⟨⟨⟩,st'⟩ s'' ⟨rfl,hp,hf,hs⟩
   try dsimp only
   exact tail st' hf hp (by rw[hp.size_eq];exact hs)
theorem yc{l:Addr}{q:Addr}{vs:List Value}{Q:Value->Shared->Prop}(J:Addr->Addr->Shared->List Value->Prop)(hl:s.heap.IsList l vs.toArray)(hn:vs.length<=100000)
  (start:∀h',(∀b o,s.heap.get? b=some o->h'.get? b=some o)->(∃o,h'.get? (s.heap.objs.size+1)=some o)->(∃o,h'.get? (s.heap.objs.size+3)=some o)->J (s.heap.objs.size+1) (s.heap.objs.size+3) { s with heap:=h' } [])
  (MU:∀a kS s' h'' keys,a=s.heap.objs.size+1->kS=s.heap.objs.size+3->J a kS s' keys->(∀b o,b≠a->b≠kS->s'.heap.get? b=some o->h''.get? b=some o)->(∃o,h''.get? a=some o)->(∃o,h''.get? kS=some o)->J a kS { s' with heap:=h'' } keys)
  (turn:∀ a kS i v keys s',a=s.heap.objs.size+1→kS=s.heap.objs.size+3→vs[i]?=some v→keys.length=i→J a kS s' keys →
   wpAny (model prog w) A.in1.in1 (call (.ref q) [v]) (fun k s''=>J a kS s'' (keys++[k])/\∀b o,(b=a\/b=kS)->s'.heap.get? b=some o->s''.heap.get? b=some o) (fun _ _=>False) s')
  (Fp:∀a kS s' keys (E:Value->Shared->Prop),a=s.heap.objs.size+1->kS=s.heap.objs.size+3->J a kS s' keys->keys.length=vs.length->Qj prog w A.in1.in1 E a kS vs keys (fun h''=>Q (.ref a) { s' with heap:=h'' }) s') :
  wpAny (model prog w) A (call (.builtin "sorted") [.ref l] [(VR "key",.ref q)]) Q E s:=by
 refine call_function_entry_kw kind_sorted plain_sorted entry_sorted (ksk_s1 _ _) ?_;unfold Builtin.«sorted»;refine wpAny_bind (m:=checkCount "sorted" 1 1 _) (wpAny_pure ?_);refine wpAny_bind (collect_list hl ?_ (by rw[sizeLine_eq];lia));refine wpAny_bind (wpAny_newList ?_ (by rw[sizeLine_eq];lia));have hsz:((s.heap.push (seqObj "list" #[] 0)).update s.heap.objs.size (T5 (·++vs.toArray))).objs.size=s.heap.objs.size+1:=by rw[Vp,size_push']
 have hoL:(((s.heap.push (seqObj "list" #[] 0)).update s.heap.objs.size (T5 (·++vs.toArray))).push (seqObj "list" vs.toArray 0)).get? (s.heap.objs.size+1)=some (seqObj "list" vs.toArray 0):=by rw[<- hsz];exact To _ rfl
 have hz2:(((s.heap.push (seqObj "list" #[] 0)).update s.heap.objs.size (T5 (·++vs.toArray))).push (seqObj "list" vs.toArray 0)).objs.size=s.heap.objs.size+2:=by rw[size_push',hsz]
 have keep:∀b o,s.heap.get? b=some o->(((s.heap.push (seqObj "list" #[] 0)).update s.heap.objs.size (T5 (·++vs.toArray))).push (seqObj "list" vs.toArray 0)).get? b=some o:=fun b o q=>by have En:b<s.heap.objs.size:=S9 q;rw[Ve _ _ _ (by rw[hsz];exact Ti (UD En)),Ux _ _ _ _ (Ti En),Ve _ _ _ (Ti En)];exact q
 show wpAny _ _ _ _ _ { s with heap:=((s.heap.push (seqObj "list" #[] 0)).update s.heap.objs.size (T5 (·++vs.toArray))).push (seqObj "list" vs.toArray 0) };rw[hsz];refine wpAny_bind (wpAny_holding (wpAny_call_entry_kw slot_list_sort ⟨_,hoL,rfl⟩ entry_list_sort ?body (ksk_l1 _ _)))
 case body=>
  show wpAny (model prog w) A.in1.in1 (Builtin.«list.sort» ⟨[.ref (s.heap.objs.size+1)],[(VR "key",.ref q)]⟩) _ _ _;rw[ksk_t1];refine D3 (s:={ s with heap:=((s.heap.push (seqObj "list" #[] 0)).update s.heap.objs.size (T5 (·++vs.toArray))).push (seqObj "list" vs.toArray 0) }) (J (s.heap.objs.size+1)) hoL hn
   (fun h' k g1 g2=>?_) (fun s' h'' keys hj k g1 g2=>?_) (fun i v keys s' hv hi hj=>?_) fun s' keys hj hk=>?_
  ·dsimp only at g2 ⊢;rw[hz2]at g2 ⊢;exact start h' (fun b o e=>k b o (Ti (UD (S9 e))) (keep b o e)) g1 g2
  ·dsimp only at hj k g2 ⊢;rw[hz2]at hj k g2 ⊢;exact MU _ _ s' h'' keys rfl rfl hj k g1 g2
  ·dsimp only at hj ⊢;rw[hz2]at hj ⊢;exact turn _ _ i v keys s' rfl rfl hv hi hj
  ·dsimp only at hj ⊢;rw[hz2]at hj ⊢;obtain⟨κ,kd,z1,z2,z3,z4⟩:=Fp _ _ s' keys E rfl rfl hj hk;refine⟨κ,kd,z1,z2,z3,fun xs h'' y1 y2 y3 y4 y5=>⟨_,rfl,?_⟩⟩;exact wpAny_pure ⟨_,rfl,z4 xs h'' y1 y2 y3 y4 y5⟩
end Ts
namespace Br
open PySem PySem.Spec PyProof.Rows L2
structure MV(mg:Str->Option Value)(base:Heap)(cd:Value)(P0:Addr):Prop where
 code:∃c0,cd=.ref c0/\WJ base c0 P0
 blt:base.BuiltinsAt mg P0
noncomputable abbrev gj(X:Cx)(params:Arguments)(body:Expr)(scope:Scope)(c:Addr)(ct:Value):Obj:=
 PySem.W.kla_obj "<lambda>" (X.env.qual ++ "<lambda>") params body scope [] ((X.mg "__name__").getD .none) c ct
def yd(H:Hp)(P0 c:Addr)(q:Str):Prop:=∃oc vs t,H c=some (.frz oc (.own P0))/\oc.data=.fields vs/\vs[1]?=some (.str q t)
theorem yd.rec{P:Program}{w:World}{H:Hp}{h:Heap}{P0 c:Addr}{q:Str}(l:yd H P0 c q)(ok:HOk P w H h):h.CodeRec (.ref c) q:=by obtain⟨oc,vs,t,e,d,v⟩:=l;exact⟨c,oc,vs,t,rfl,(ok c _ e).1,d,v⟩
theorem yd.mono{H H':Hp}{P0 c:Addr}{q:Str}(l:yd H P0 c q)(s:au H H'):yd H' P0 c q:=by obtain⟨oc,vs,t,e,r⟩:=l;exact⟨oc,vs,t,s _ _ e,r⟩
section
variable{X:Cx}{sV:List (Addr×Obj)}{σ:L2.St}{H:Hp}{s:Shared}
theorem JY(I:Inv X sV σ H s){f:Addr}{o:Obj}(e:s.heap.get? f=some o)(n:H f=none)(nl:f≠X.env.locals)(nf:f∉X.fs)(d:∀v,o.data≠.cell v):Inv X ((f,o)::sV) σ H s:=
 I.lZ fun p hp=>by
  rcases S4.mp hp with rfl | hp
  ·exact⟨e,n,nl,nf,d⟩
  ·exact I.pin p (TF _ hp)
theorem D4{params:Arguments}{body:Expr}{scope:Scope}{jM:Pos}{P0:Addr}{E:Value->Shared->Prop}{Q:Value->Shared->Prop}
  (I:Inv X sV σ H s) (tb:MV X.mg X.base X.env.code P0) (hcl:closureFor scope X.env=pure []) (hdef:defaultsOf params X.env=([],[]))
  (ht:H P0=some (.tbl (rawInt jM.line) (rawInt jM.col) (X.env.qual ++ "<lambda>")))
  (k:∀f c ct H' s',Inv X ((f,gj X params body scope c ct)::sV) σ H' s'->yd H' P0 c (X.env.qual ++ "<lambda>")->au H H'->s.heap.objs.size<=s'.heap.objs.size->Q (.ref f) s') :
  wpAny (model X.prog X.w) X.A (eval (.Lambda params body scope jM) X.env) Q E s:=by
 obtain⟨⟨c0,hcode,hC⟩,hB⟩:=tb;obtain⟨ps,hP,d⟩:=I.hok P0 _ ht;have hg:=I.ok.mod.glob.keeps I.bk;have hgP:mainGlobals≠P0:=fun z=>by obtain⟨o,es,ep,e,_⟩:=I.ok.mod.glob;have:=(I.bs _ _ e).2;rw[z,ht]at this;cases this
 have nP:∀b,H b=none->b≠P0:=fun b n z=>by rw[z,ht]at n;cases n
 refine PySem.W.kla_eval hdef ?_;rcases d with rfl | ⟨c,oc,vs,t,rfl,d2,d3,d4⟩
 ·refine PySem.W.kla_makeFunction hcl I.ok.glob hg hcode (hC.keeps I.bk) hP trivial rfl hgP (hB.keeps I.bk) fun c' ctv h' tk hx hge En hrec htb=>?_;obtain⟨c2,oc,vs,t,ec,hoc,hd,hv⟩:=hrec;cases ec;have fc:H c'=none:=I.hok.fresh hge;have keep:∀b o,s.heap.get? b=some o->b≠P0->(h'.push (gj X params body scope c' ctv)).get? b=some o:=fun b o e hb=>Ds _ (hx b o hb e);have cP:c'≠P0:=fun z=>by rw[z,ht]at fc;cases fc
  have szs:s.heap.objs.size<=h'.objs.size:=VP (US hge En);have I2:Inv X sV σ (upd H c' (.frz oc (.own P0))) { s with heap:=h'.push (gj X params body scope c' ctv),gens:=s.gens,drawn:=s.drawn,toks:=tk }:=by
   refine I.step (ch:=[]) (fun _ z=>nomatch z) (fun b o _ _ _ e n=>keep b o e (nP b n)) (fun b o _ _ _ e n=>⟨o.slots,keep b o e (nP b n)⟩)
    (fun b o _ e n=>by rw[aj (Ti (Tj (S9 e) hge))];exact n) (fun b o _ e=>?_)
    (fun b xs q=>by rw[aj (aC q fc)];exact q) (fun b u xs q=>by rw[aj (aC q fc)];exact q) (fun b _ _ _ q=>by rw[aj (aC q fc)];exact q) (fun m hm=>?_) (fun b u e=>?_) I.bare
   ·by_cases hb:b=P0
    ·subst hb;exact⟨_,Ds _ htb⟩
    ·exact⟨o,keep b o e hb⟩
   ·obtain⟨o,es,ep,ho,r⟩:=hm;exact⟨o,es,ep,keep _ o ho (nP _ I.free),r⟩
   ·by_cases hb:b=c'
    ·subst hb;rw[aq]at e;cases e;exact⟨Ds _ hoc,_,Ds _ hoc⟩
    ·rw[aj hb]at e;by_cases hb2:b=P0
     ·subst hb2;rw[ht]at e;cases e;refine⟨_,Ds _ htb,.inr ⟨c',oc,vs,t,?_,aq,hd,hv⟩⟩;simp
     ·refine(I.hok b u e).stay (fun c v hc q=>keep c v q ?_) (fun c q=>by rw[aj (aC q fc)];exact q) (fun c _ _ q=>by rw[aj (aC q fc)];exact q) fun c xs q=>by rw[aj (aC q fc)];exact q
      rcases hc with rfl | hc
      ·exact hb2
      ·rintro rfl;rw[ht]at hc;cases hc
  refine k _ c' ctv _ _ (JY I2 (To _ rfl) ?_ ?_ ?_ fun v z=>by cases z) ⟨oc,vs,t,aq,hd,hv⟩ (fun b o e=>by rw[aj (aC e fc)];exact e) ?_
  ·rw[aj (UC En)];exact I.hok.fresh szs
  ·exact UC (Tj I.lt szs)
  ·exact I.K_ szs
  ·show _<=(h'.push _).objs.size;rw[UT];lia
 ·have hf:codeAmong jM [rawInt jM.line,rawInt jM.col,Tz c]=some (.ref c):=by
   simp[codeAmong,rawInt]
  refine PySem.W.kla_makeFunctionHit hcl I.ok.glob hg hcode (hC.keeps I.bk) hP trivial hf (hB.keeps I.bk) fun ctv h' tk hk hsz=>?_;have I2:Inv X sV σ H { s with heap:=h'.push (gj X params body scope c ctv),toks:=tk }:=I.kept fun b o e=>Ds _ (hk b o e);refine k _ c ctv _ _ (JY I2 (To _ rfl) (I.hok.fresh hsz) (UC (Tj I.lt hsz)) (I.K_ hsz) fun v z=>by cases z) ⟨oc,vs,t,d2,d3,d4⟩ (au.refl _) ?_;show _<=(h'.push _).objs.size;rw[UT];lia
end
end Br
namespace Dm
section
variable{key:Dat->Option (List Int)}
noncomputable def ltK(key:Dat->Option (List Int))(a b:Dat):Bool:=match key a,key b with
 |some x,some y=>lx x y
 |_,_=>false
noncomputable def keysOf(key:Dat->Option (List Int)):List Dat->Option (List (List Int))
 |[]=>some []
 |d::r=>match key d,keysOf key r with
  |some x,some xs=>some (x::xs)
  |_,_=>none
noncomputable def gk(b:Nat)(key:Dat->Option (List Int)):List Dat->Option RV
 | [.lst ds]=>if ds.length≤b then (match keysOf key ds with
  |some kss=>if kss.Nodup then some (.new (.lst (bg (ltK key) ds))) else none
  |none=>none) else none
 |_=>none
noncomputable def uX(fk:FE)(d:Dat):Option (List Int):=match fk [.sh d] with
 |some (.val (.tup [.int n,.tup ks]),_)=>(fN ks).map fun ms=>n::ms
 |_=>none
theorem qW:∀{ds:List Dat} {kss:List (List Int)},keysOf key ds=some kss->kss.length=ds.length/\∀(i:Nat) (d:Dat),ds[i]?=some d->∃x,kss[i]?=some x/\key d=some x
 |[],kss,e=>by cases e;exact⟨rfl,fun i d h=>by simp at h⟩
 |d::r,kss,e=>by
  unfold keysOf at e;split at e
  ·rename_i x xs e1 e2;cases e;obtain⟨l,h⟩:=qW e2;refine⟨by simp[l],fun i d' hi=>?_⟩;cases i with
   |zero=>cases hi;exact⟨x,rfl,e1⟩
   |succ i=>exact h i d' hi
  ·cases e
theorem nH:∀{l m:List Dat},l.Perm m->(∀a∈l,∀b∈l,ltK key a b=false->ltK key b a=false->a=b)->l.Pairwise (fun a b=>ltK key b a=false)->m.Pairwise (fun a b=>ltK key b a=false)->l=m
 |[],m,p,_,_,_=>(List.nil_perm.mp p).symm
 |x::l,[],p,_,_,_=>by have:=p.length_eq;simp at this
 |x::l,y::m,p,tot,h1,h2=>by
  obtain⟨a1,a2⟩:=Uv.mp h1;obtain⟨b1,b2⟩:=Uv.mp h2;have e:x=y:=by
   rcases S4.mp (p.mem_iff.mp gV) with hx | hx
   ·exact hx
   ·have hyl:=p.mem_iff.mpr (gV (a:=y) (l:=m));rcases S4.mp hyl with hy | hy
    ·exact hy.symm
    ·exact tot x gV y hyl (b1 x hx) (a1 y hy)
  subst e;rw[nH (Xw.cons_inv p) (fun a ha b hb=>tot a (gc _ ha) b (gc _ hb)) a2 b2]
theorem gm{a b:Dat}{x y:List Int}(ha:key a=some x)(hb:key b=some y):ltK key a b=lx x y:=by unfold ltK;rw[ha,hb]
theorem qh(key:Dat->Option (List Int))(l:List Dat)(h:∀d∈l,∃x,key d=some x):(bg (ltK key) l).Pairwise (fun a b=>ltK key b a=false):=by
 have gen:∀l:List Dat,(∀d∈l,∃x,key d=some x)->(bg (fun a b=>lx ((key a).getD []) ((key b).getD [])) l).Pairwise (fun a b=>lx ((key b).getD []) ((key a).getD [])=false):=fun l _=>
  bP (fun a b c h1 h2=>by
   cases h:lx ((key c).getD []) ((key a).getD [])
   ·rfl
   ·rcases sG _ ((key b).getD []) _ h with z | z
    ·rw[z]at h2;cases h2
    ·rw[z]at h1;cases h1) (fun a b h=>by
   cases h':lx ((key b).getD []) ((key a).getD [])
   ·rfl
   ·have:=eS _ _ _ h h';rw[dH]at this;cases this) l
 have eqs:∀a b:Dat,(∃x,key a=some x)->(∃x,key b=some x)->ltK key a b=lx ((key a).getD []) ((key b).getD []):=fun a b ⟨x,ha⟩ ⟨y,hb⟩=>by rw[gm ha hb,ha,hb];rfl
 have Sg:∀(x:Dat) (m:List Dat),(∃k,key x=some k)->(∀d∈m,∃k,key d=some k)->ins (ltK key) x m=ins (fun a b=>lx ((key a).getD []) ((key b).getD [])) x m:=fun x m hx hm=>by
  induction m with
  |nil=>rfl
  |cons y m ih=>rw[ins,ins,eqs y x (hm y gV) hx,ih fun d hd=>hm d (gc _ hd)]
 have isE:∀m:List Dat,(∀d∈m,∃k,key d=some k)->bg (ltK key) m=bg (fun a b=>lx ((key a).getD []) ((key b).getD [])) m:=fun m hm=>by
  induction m with
  |nil=>rfl
  |cons y m ih=>rw[bg,bg,ih fun d hd=>hm d (gc _ hd)];exact Sg y _ (hm y gV) fun d hd=>hm d (gc _ ((bA _ m).mem_iff.mp hd))
 rw[isE l h];refine(gen l h).imp_of_mem fun {a b} ha hb z=>?_;rw[eqs b a (h b ((bA _ l).mem_iff.mp hb)) (h a ((bA _ l).mem_iff.mp ha))];exact z
end
end Dm
namespace Br
open PySem PySem.Spec PyProof.Rows L2
section
variable{ok:Addr->Bool}{ks:List Int}{v:Value}{H:Hp}
def lV(H:Hp)(v:Value)(ks:List Int)(r:List V):Prop:=∃(a b:Addr) (n:Int) (ms:List Int),v=.ref a/\H a=some (.tup (.int n::.ref b::r))/\H b=some (.tup (ms.map V.int))/\ks=n::ms
noncomputable def qX(H:Hp)(ok:Addr->Bool):Value->Option (List Int)
 | .ref a=>if ok a then (match H a with
  | some (.tup (.int n::.ref b::_))=>(match H b with
   |some (.tup xs)=>(f9 xs).map fun ms=>n::ms
   |_=>none)
  |_=>none) else none
 |_=>none
noncomputable def cT(H:Hp)(ok:Addr->Bool):KeyKind:={ lexOrd with keyOf:=qX H ok,dflt:=([]:List Int) }
theorem uY{r:List V}(h:lV H v ks r)(ho:∀a,v=.ref a->ok a=true):qX H ok v=some ks:=by obtain⟨a,b,n,ms,rfl,h1,h2,rfl⟩:=h;unfold qX;dsimp only;rw[if_pos (ho a rfl),h1];dsimp only;rw[h2];dsimp only;rw[cJ];rfl
theorem qY(h:qX H ok v=some ks):∃r a,v=.ref a/\ok a=true/\lV H v ks r:=by
 unfold qX at h;split at h
 ·rename_i a;split at h
  ·rename_i ho;split at h
   ·rename_i n b r h1;split at h
    ·rename_i xs h2;cases q:f9 xs with
     |none=>rw[q]at h;cases h
     |some ms=>rw[q]at h;cases h;have:=nk q;subst this;exact⟨r,a,rfl,ho,a,b,n,ms,rfl,h1,h2,rfl⟩
    ·cases h
   ·cases h
  ·cases h
 ·cases h
end
section
variable{prog:Program}{w:World}{A:Around}{E:Value->Shared->Prop}{s:Shared}
section
variable{Q:Bool->Shared->Prop}{h:Heap}{H:Hp}
theorem eq_self{a:Addr}(h:Q true s):wpAny (model prog w) A (eqBool (.ref a) (.ref a)) Q E s:=by
 unfold eqBool
 try with_reducible refine wpAny_holding ?_
 show wpAny _ _ (if (Tz a == Tz a)=true then _ else _) Q E s;rw[if_pos (by simp)];exact wpAny_bind (wpAny_rule (wpAny_pure h))
theorem qZ{Fp:Bool}(q:Q Fp s):∀{as:List Addr} (i:Nat),PySem.W.KatLex prog w A true Fp Q ((as.map Tz).zip (as.map Tz)) i s
 |[],i=>q
 |a::as,i=>by rw[eg,Um];exact Wl (eq_self (Wv (qZ q (i+1))))
theorem kH:∀{as:List Addr} {us:List Value},Vals (as.map V.ref) us->us=as.map Tz
 |[],_,.nil=>rfl
 |a::as,_,.cons h r=>by cases h;rw[kH r];rfl
theorem JZ{xs:List Value}{ms:List Int}:IntsAre xs ms->ItemsAre (intKind prog w) ms xs:=fun h=>by
 induction h with
 |nil=>exact .nil
 |cons n t _ ih=>exact .cons (show Value.isInt n (.int n t)=true by simp[Value.isInt]) ih
theorem lt2(hu:A.units<cLine)(ok:HOk prog w H h)(hh:∀b o,h.get? b=some o->s.heap.get? b=some o){x y:Value}{ks ms:List Int}{r r':List V}(kx:lV H x ks r)(ky:lV H y ms r')
  (hl:r.length=r'.length) (hs:ks=ms->∃as:List Addr,r=as.map V.ref/\r'=as.map V.ref) {Q:Bool->Shared->Prop} (q:Q (Dm.lx ks ms) s):wpAny (model prog w) A (keyLt' (tuples' true) x y) Q E s:=by
 obtain⟨a,b,n,ns,rfl,h1,h2,rfl⟩:=kx;obtain⟨a',b',n',ns',rfl,h1',h2',rfl⟩:=ky;obtain⟨_,ts,rt,o,ho,hc,m,hd⟩:=ok a _ h1;obtain⟨_,ts',rt',o',ho',hc',m',hd'⟩:=ok a' _ h1';obtain⟨_,us,ru,p,hp,pc,pm,pd⟩:=ok b _ h2;obtain⟨_,us',ru',p',hp',pc',pm',pd'⟩:=ok b' _ h2';cases rt with
 |cons e1 rt=>
 cases rt with
 |cons e2 rt=>
 cases rt' with
 |cons e1' rt'=>
 cases rt' with
 |cons e2' rt'=>
 obtain⟨t,rfl⟩:=e1;obtain⟨t',rfl⟩:=e1';cases e2;cases e2';have l1:=rt.length;have l2:=rt'.length;have iu:=intsAre_of ru;have iu':=intsAre_of ru';refine PySem.W.kat_lt (hh _ _ ho) hd (hh _ _ ho') hd' ?_;rw[Um,Um];refine Wl (wpAny_eqBool_int ?_);rw[Dm.lx]at q;by_cases e:n=n'
 ·rw[if_pos e]at q;have:(n == n')=true:=by simpa using e
  rw[this];refine Wv (Wl (wpAny_eqBool_tuple (knd:=intKind prog w) hu ⟨p,_,pm,hh _ _ hp,pc,pd,JZ iu⟩ ⟨p',_,pm',hh _ _ hp',pc',pd',JZ iu'⟩ ?_));by_cases e':ns=ns'
  ·subst e e';rw[decide_eq_true rfl];obtain⟨as,rfl,rfl⟩:=hs rfl;rw[kH rt,kH rt'];refine Wv (qZ ?_ _);rw[Dm.dH]at q
   simpa using q
  ·rw[decide_eq_false e'];refine Xj ?_;refine PySem.W.kat_one _ _ ?_;show wpAny _ _ (richCompare .Lt (.ref b) (.ref b')) _ _ s;exact MO (hh _ _ hp) pc pd iu (hh _ _ hp') pc' pd' iu' hu q
 ·rw[if_neg e]at q;have:(n == n')=false:=by simpa using e
  rw[this];exact Xj (oneLt_int q)
theorem Qk(ok:HOk prog w H h)(hh:∀b o,h.get? b=some o->s.heap.get? b=some o){vs:List Value}(hv:∀v∈vs,∃ks r,lV H v ks r)(h2:2<=vs.length){Q:SortKind->Shared->Prop}(q:Q (tuples' true) s) :
  wpAny (model prog w) A (keyKind' vs.toArray) Q E s:=by
 have tups:∀l:List Value,(∀v∈l,∃ks r,lV H v ks r)->∃fs,PySem.W.KatTups s.heap l fs/\fs.length=l.length/\∀f∈fs,∃n t,f=Vj n t:=fun l=>by
  induction l with
  |nil=>intro _;exact⟨[],.nil,rfl,fun f hf=>by cases hf⟩
  |cons v l ih=>
   intro hl';obtain⟨ks,r,a,b,n,ns,rfl,h1,h2,rfl⟩:=hl' v gV;obtain⟨fs,t,lf,hf⟩:=ih fun z hz=>hl' z (gc _ hz);obtain⟨_,ts,rt,o,ho,hc,m,hd⟩:=ok a _ h1;cases rt with
   |cons e1 rt=>
    obtain⟨t1,rfl⟩:=e1;refine⟨_::fs,.cons (hh _ _ ho) hc hd (f:=.int n t1) (by simp) t,by simp[lf],fun f hm=>?_⟩;rcases S4.mp hm with rfl | hm
    ·exact⟨_,_,rfl⟩
    ·exact hf f hm
 obtain⟨fs,t,lf,hf⟩:=tups vs hv;refine PySem.W.kat_kind (T:=.type "int") t (by lia) (fun f hm=>?_) (by rfl) q;obtain⟨n,tk,rfl⟩:=hf f hm;exact .now
end
end
section
variable{key:Dat->Option (List Int)}{α β:Type}{ds:List Dat}{H0 H:Hp}{d:Dat}
theorem Bo(f:α->β):∀{l':List β} {m:List β},l'.Perm m->∀l:List α,l.map f=m->∃k:List α,k.Perm l/\k.map f=l':=fun {l' m} p=>by
 induction p with
 |nil=>intro l e;exact⟨[],by rw[List.map_eq_nil_iff.mp e],rfl⟩
 |cons x p ih=>intro l e;obtain⟨a,r,rfl,rfl,e2⟩:=WD.mp e;obtain⟨k,k1,k2⟩:=ih r e2;exact⟨a::k,k1.cons a,by rw[eg,k2]⟩
 |swap x y l0=>intro l e;obtain⟨a,r,rfl,rfl,e2⟩:=WD.mp e;obtain⟨b,r2,rfl,rfl,e3⟩:=WD.mp e2;exact⟨b::a::r2,Xi a b r2,by rw[eg,eg,e3]⟩
 |trans p1 p2 i1 i2=>intro l e;obtain⟨k,k1,k2⟩:=i2 l e;obtain⟨k',k3,k4⟩:=i1 k k2;exact⟨k',k3.trans k1,k4⟩
structure Qd where
 k:Value
 v:Value
 u:V
 d:Dat
 ks:List Int
structure Qd.Ok(H0 H:Hp)(key:Dat->Option (List Int))(q:Qd):Prop where
 k2:∃r,lV H q.k q.ks r
 rel:RelV q.u q.v
 rep:Rep H0 q.u q.d
 key:key q.d=some q.ks
theorem J0:∀{us:List V} {its keys:List Value} {ds:List Dat} {kss:List (List Int)},Paired (fun k ks=>∃r,lV H k ks r) keys kss->Vals us its->aD H0 us ds->Dm.keysOf key ds=some kss ->
  ∃qs:List Qd,qs.map (fun q=>(q.k,q.v))=keys.zip its/\qs.map (·.d)=ds/\qs.map (·.ks)=kss/\∀q∈qs,q.Ok H0 H key
 |[],_,keys,_,kss,p,.nil,.nil,e=>by cases e;cases p;exact⟨[],rfl,rfl,rfl,fun q h=>by cases h⟩
 |u::us,v::its,keys,d::ds,kss,p,.cons hv rv,.cons hr rr,e=>by
  unfold Dm.keysOf at e;split at e
  ·rename_i x xs e1 e2;cases e;cases p with
   |cons h t=>
    rename_i k keys';obtain⟨qs,a1,a2,a3,a4⟩:=J0 t rv rr e2;refine⟨⟨k,v,u,d,x⟩::qs,by rw[eg,a1];rfl,by rw[eg,a2],by rw[eg,a3],fun q hq=>?_⟩;rcases S4.mp hq with rfl | hq
    ·exact⟨h,hv,hr,e1⟩
    ·exact a4 q hq
  ·cases e
theorem D5{f:α->β}{l:List α}(h:(l.map f).Nodup){a b:α}(ha:a∈l)(hb:b∈l)(e:f a=f b):a=b:=by obtain⟨i,hi,rfl⟩:=UM ha;obtain⟨j,hj,rfl⟩:=UM hb;have:i=j:=(List.getElem_inj (h₀:=by simpa using hi) (h₁:=by simpa using hj) h).mp (by simpa using e);subst this;rfl
theorem Bp{ok:Addr->Bool}{key:Dat->Option (List Int)}{keys its:List Value}{us:List V}{kss:List (List Int)}(pk:Paired (fun k ks=>∃r,lV H k ks r) keys kss)(rv:Vals us its)(rr:aD H0 us ds)
  (e:Dm.keysOf key ds=some kss) (nd:kss.Nodup) (hok:∀k∈keys,∀a,k=.ref a->ok a=true) {xs:Array Keyed} (hp:xs.Perm (keys.toArray.zip its.toArray)) (hs:Ts.Seg (cT H ok) xs 0 xs.size) :
  ∃(zs:List V) (out:List Value),xs.map (·.2)=out.toArray/\Vals zs out/\zs.length=us.length/\aD H0 zs (Dm.bg (Dm.ltK key) ds):=by
 obtain⟨qs,a1,a2,a3,a4⟩:=J0 pk rv rr e;have pm:xs.toList.Perm (keys.zip its):=by
  have:=VM.mp hp
  rwa [show (keys.toArray.zip its.toArray).toList=keys.zip its by simp]at this
 obtain⟨qs',b1,b2⟩:=Bo (fun q:Qd=>(q.k,q.v)) pm qs a1;have ok':∀q∈qs',q.Ok H0 H key:=fun q hq=>a4 q (b1.mem_iff.mp hq);have mk:∀q∈qs',q.k∈keys:=fun q hq=>by
  have:(q.k,q.v)∈keys.zip its:=by rw[<- a1];exact List.mem_map_of_mem (b1.mem_iff.mp hq)
  exact(UY this).1
 have kq:∀q∈qs',qX H ok q.k=some q.ks:=fun q hq=>by obtain⟨r,z⟩:=(ok' q hq).k2;exact uY z (hok _ (mk q hq))
 have ka:KeysOf (cT H ok) xs:=fun p hp=>by rw[<- b2]at hp;obtain⟨q,hq,rfl⟩:=Td.mp hp;exact⟨q.ks,kq q hq⟩
 have so:qs'.Pairwise (fun x y=>Dm.lx y.ks x.ks=false):=by have:=(Ts.uF ka (i:=0) (j:=xs.size) (PU _)).mp hs;rw[Ts.zy,List.drop_zero,<- b2,U3]at this;refine this.imp_of_mem fun {x y} hx hy hle=>?_;have hle':Dm.lx (Ts.kp (cT H ok) (y.k,y.v)) (Ts.kp (cT H ok) (x.k,x.v))=false:=hle;unfold Ts.kp at hle';have e1:(cT H ok).keyOf (x.k,x.v).1=some x.ks:=kq x hx;have e2:(cT H ok).keyOf (y.k,y.v).1=some y.ks:=kq y hy;rw[e1,e2]at hle';exact hle'
 have es:qs'.map (·.d)=Dm.bg (Dm.ltK key) ds:=by
  have hk:∀d∈ds,∃x,key d=some x:=fun d hd=>by rw[<- a2]at hd;obtain⟨q,hq,rfl⟩:=Td.mp hd;exact⟨_,(a4 q hq).key⟩
  refine Dm.nH (((b1.map (·.d)).trans (.of_eq a2)).trans (Dm.bA _ ds).symm) (fun a ha b hb h1 h2=>?_) ?_ (Dm.qh key ds hk)
  ·obtain⟨x,hx,rfl⟩:=Td.mp ha;obtain⟨y,hy,rfl⟩:=Td.mp hb;rw[Dm.gm (ok' x hx).key (ok' y hy).key]at h1;rw[Dm.gm (ok' y hy).key (ok' x hx).key]at h2;have:=Dm.eT _ _ h1 h2;rw[D5 (f:=Qd.ks) (by rw[a3];exact nd) (b1.mem_iff.mp hx) (b1.mem_iff.mp hy) this]
  ·rw[U3];refine so.imp_of_mem fun {x y} hx hy h=>?_;rw[Dm.gm (ok' y hy).key (ok' x hx).key];exact h
 have vals:∀l:List Qd,(∀q∈l,q.Ok H0 H key)->Vals (l.map (·.u)) (l.map (·.v))/\aD H0 (l.map (·.u)) (l.map (·.d)):=fun l=>by
  induction l with
  |nil=>intro _;exact⟨.nil,.nil⟩
  |cons q l ih=>intro h;obtain⟨i1,i2⟩:=ih fun z hz=>h z (gc _ hz);exact⟨.cons (h q gV).rel i1,.cons (h q gV).rep i2⟩
 obtain⟨v1,v2⟩:=vals qs' ok';refine⟨qs'.map (·.u),qs'.map (·.v),?_,v1,?_,?_⟩
 ·apply W2.mp;rw[Array.toList_map,<- b2,Uj];rfl
 ·rw[Dk,b1.length_eq,rr.length];have:=congrArg List.length a2
  rwa [Dk]at this
 ·rw[<- es];exact v2
def rD(g:List Dat->Option RV):List V->Hp->VK->Prop:=fun vs H Q=>∃H0 ds z,au H0 H/\qD H0 H vs ds/\g ds=some z/\∀v H0' H',aQ H0 H H0' H'->sd H H0' H' v z->Q v H'
theorem Ql(g:List Dat->Option RV):CallD (rD g) g:=fun H0 H vs ds z Q s rs e k=>⟨H0,ds,z,s,rs,e,k⟩
theorem uZ{b:Nat}{z:RV}(e:Dm.gk b key ds=some z):∃xs kss,ds=[.lst xs]/\xs.length<=b/\Dm.keysOf key xs=some kss/\kss.Nodup/\z=.new (.lst (Dm.bg (Dm.ltK key) xs)):=by
 unfold Dm.gk at e;split at e
 ·split at e
  ·split at e
   ·split at e
    ·rename_i h1 _ kss h2 h3;cases e;exact⟨_,kss,rfl,h1,h2,h3,rfl⟩
    ·cases e
   ·cases e
  ·cases e
 ·cases e
theorem Ig{P:Program}{w:World}{K:Dp}{mg:Str->Option Value}{base:Heap}{f c:Addr}{qual:Str}{params:Arguments}{body:Expr}{scope:Scope}{pm ct:Value}{N ps:List Str}{k:Nat}{A:Around}{outer:List Env}{s:Shared}{H:Hp}
  {args:Args} {us:List Value} {vs:List V} {t:TE} {Q:VK} (S:ak N ps scope) (hr:aX k A) (e0:t7 P w K mg base A outer s H)
  (ho:s.heap.get? f=some (PySem.W.kla_obj "<lambda>" qual params body scope [] pm c ct)) (J2:s.heap.CodeRec (.ref c) qual)
  (hb:bindArgs (Xm "<lambda>" qual params body scope [] pm (.ref c) ct) args=pure (ps.zip us)) (r:Vals vs us) (hl:vs.length=ps.length)
  (hbody:PE (j4 CX0 P w K mg base N qual scope f (.ref c) A outer s H E0).nox body t) (hq:t (start N vs) H Q) :
  codeAny (model P w) A (.call (.ref f) args) (CR CX0 outer P w H s Q E0) s:=by
 have lim:s.heap.NoLimit:=e0.mod.nolimit.keeps fun b o e=>(e0.bs b o e).1;have hkind:∀y∈ps.zip us,scope.names.lookup y.1=some .local\/(scope.names.lookup y.1=some .cell/\((cellsFrom (s.heap.objs.size+1) scope.names []).lookup y.1).isSome=true):=fun⟨n,v⟩ hy=>by
  rcases S.par n (UY hy).1 with q | q
  ·exact .inl q
  ·exact .inr ⟨q,V7 _ _ _ (.inl q)⟩
 refine PySem.W.kla_callFunE hr.depth ho rfl S.co S.gen rfl J2 ?_;rw[hb];refine wpAny_pure (wpAny_newFunctionEnv_cells S.kind hkind fun env he s1 x=>?_);subst he;refine⟨lim.keeps x.toInCall.keep,PySem.W.kla_codeExpr ?_⟩;have I:Inv (j4 CX0 P w K mg base N qual scope f (.ref c) A outer s H E0) [] (start N vs) H s1:=qy S hr.hd e0 hl r x;refine wpAny_mono (hbody.nox [] s1 (start N vs) H _ I hq) (fun u s' hs=>?_) fun e s' hs=>hs;obtain⟨v,H',J,rv,q⟩:=hs;exact⟨v,H',J.os,J.bare,J.base,J.hok,rv,q⟩
theorem D6{fk:FE}{ks:List Int}(e:Dm.uX fk d=some ks):∃n ds ms ρ',fk [.sh d]=some (.val (.tup [.int n,.tup ds]),ρ')/\Dm.fN ds=some ms/\ks=n::ms:=by
 unfold Dm.uX at e;split at e
 ·rename_i n ds ρ' h;cases q:Dm.fN ds with
  |none=>rw[q]at e;cases e
  |some ms=>rw[q]at e;cases e;exact⟨n,ds,ms,_,h,q,rfl⟩
 ·cases e
theorem lg{F:α->β->Prop}:∀{l:List α} {m:List β} {a:α} {b:β},Paired F l m->F a b->Paired F (l++[a]) (m++[b])
 |_,_,_,_,.nil,h=>.cons h .nil
 |_,_,_,_,.cons x r,h=>.cons x (lg r h)
theorem g6{F:α->β->Prop}:∀{l:List α} {m:List β},Paired F l m->l.length=m.length
 |_,_,.nil=>rfl
 |_,_,.cons _ r=>by simp[g6 r]
theorem fG{F:α->β->Prop}:∀{l:List α} {m:List β},Paired F l m->∀a∈l,∃b∈m,F a b
 |_,_,.cons h r,a,ha=>by
  rcases S4.mp ha with rfl | ha
  ·exact⟨_,gV,h⟩
  ·obtain⟨b,hb,z⟩:=fG r a ha;exact⟨b,gc _ hb,z⟩
theorem Ih{u:V}{x:Str}(sm:au H0 H)(r:Rep H0 u d):aE H0 H (start [x] [u]) [.sh d] where
 same:=sm
 len:=rfl
 sh:=fun i e h=>by
  cases i with
  |zero=>cases h;exact⟨u,rfl,r⟩
  |succ i=>simp at h
 ow:=fun i e h=>by
  cases i with
  |zero=>cases h
  |succ i=>simp at h
 dis:=fun i j e e' a h=>by
  cases i with
  |zero=>cases h
  |succ i=>simp at h
end
section
variable{X:Cx}
def KJ(X:Cx)(sV:List (Addr×Obj))(σ:L2.St)(H2:Hp)(kss:List (List Int))(a kS:Addr)(s':Shared)(keys:List Value):Prop:=
 ∃H',Inv X sV σ H' s'/\au H2 H'/\(∀b,b=a\/b=kS->mD X sV H' b/\∃o,s'.heap.get? b=some o)/\∃done Bu,kss=done++Bu/\Paired (fun k ks=>∃r,r=[]/\lV H' k ks r) keys done
theorem ye{k:Nat}{x:Str}{params:Arguments}{body:Expr}{scope:Scope}{fk:FE}{sV:List (Addr×Obj)}{σ:L2.St}{H1 H2:Hp}{s:Shared}{vs:List V}{us:List Value}{Q:VK}{fa c P0:Addr}{ct:Value}{bd:Nat}(hbd:bd<=100000)(runs:∀{A:Around} {E:Value->Shared->Prop} {s:Shared} {κ:KeyKind} {kd:SortKind} {a₀:Array Keyed},Ts.qd (model X.prog X.w) A E s κ kd->KeysOf κ a₀->a₀.size<=bd->Ts.sS X.prog X.w A E s κ kd a₀)(hr:aX (k+3) X.A)
  (S:ak [x] [x] scope) (hbind:∀(pm:Value) (c:Addr) (ct v:Value),bindArgs (Xm "<lambda>" (X.env.qual ++ "<lambda>") params body scope [] pm (.ref c) ct) ⟨[v],[]⟩=pure [(x,v)])
  (hb:∀(fa c:Addr) (A:Around) (outer:List Env) (s:Shared) (H:Hp),aX k A->DE (j4 CX0 X.prog X.w X.K X.mg X.base [x] (X.env.qual ++ "<lambda>") scope fa (.ref c) A outer s H E0).nox body fk)
  (I2:Inv X ((fa,gj X params body scope c ct)::sV) σ H2 s) (lc:yd H2 P0 c (X.env.qual ++ "<lambda>")) (s12:au H1 H2) (fr1:∀b,s.heap.objs.size<=b->H1 b=none) (rv0:Vals vs us) (q:rD (Dm.gk bd (Dm.uX fk)) vs H1 Q) :
  wpAny (model X.prog X.w) X.A (call (.builtin "sorted") us [(VR "key",.ref fa)]) (EP X sV σ Q) X.xe s:=by
 obtain⟨H0,ds,z,sm,rs,e,kk⟩:=q;obtain⟨xd,kss,rfl,hz,hk,nd,rfl⟩:=uZ e;cases rs with
 |cons r1 rr=>
 cases rr;obtain⟨l,ys,rfl,qa,ra⟩:=bD sm r1;obtain⟨u,rfl,rx⟩:=vals1 rv0;cases rx;have qa2:Rd H2 l (.lst ys):=qa.elim (fun z=>.inl (s12 _ _ z)) fun⟨o,z⟩=>.inr ⟨o,s12 _ _ z⟩;obtain⟨its,rv,pl,hzz⟩:=I2.list (.inl qa2);have D9:=rv.length;have hlen2:=ra.length;obtain⟨kl,kat⟩:=Dm.qW hk;have sm2:au H0 H2:=fun b o e=>s12 _ _ (sm _ _ e);have hA2:aX k X.A.in1.in1:=(hr.mono (by lia:k+2<=k+3)).in1.in1;have hu:X.A.in1.in1.units<cLine:=hA2.LD;refine Ts.yc (q:=fa) (KJ X ((fa,gj X params body scope c ct)::sV) σ H2 kss) pl.isList (by lia) (fun h' kp g1 g2=>?_) (fun a kS s' h'' keys ea ek hj kp g1 g2=>?_) (fun a kS i v keys s' ea ek hv hi hj=>?_) fun a kS s' keys E ea ek hj hkl=>?_
 ·refine⟨H2,I2.kept (t':=s.toks) kp,au.refl _,fun b hb=>?_,[],kss,rfl,.nil⟩;have hge:s.heap.objs.size<=b:=by rcases hb with rfl | rfl<;>lia
  refine⟨I2.xm hge (I2.hok.fresh hge),?_⟩;rcases hb with rfl | rfl
  ·exact g1
  ·exact g2
 ·obtain⟨H',I',s',fp,r⟩:=hj;refine⟨H',gZ (fp:=[a,kS]) (t':=_) I' (fun b hb=>(fp b (by simpa using hb)).1) fun b u hb e=>kp b u (fun z=>hb (by simp[z])) (fun z=>hb (by simp[z])) e,s',fun b hb=>⟨(fp b hb).1,by rcases hb with rfl | rfl;exact g1;exact g2⟩,r⟩
 ·obtain⟨H',I',s',fp,done,Bu,Bq,pk⟩:=hj;have hil:i<its.length:=(S7.mp hv).1;obtain⟨u,hu1,ru⟩:∃u,ys[i]?=some u/\RelV u v:=by
   have hi':i<ys.length:=by lia
   obtain⟨v',e1,e2⟩:=rv.get (Tf hi');rw[hv]at e1;cases e1;exact⟨_,Tf hi',e2⟩
  obtain⟨d,hd1,rd⟩:=aD.OV ra hu1;obtain⟨ks,hks,kd⟩:=kat i d hd1;obtain⟨n,dl,ms,ρ',ef,ei,rfl⟩:=D6 kd;have pin:=I'.pin (fa,gj X params body scope c ct) (TF _ gV);have sm':au H0 H':=fun b o e=>s' _ _ (sm2 _ _ e);have hq:tD fk (start [x] [u]) H' (fun v H''=>au H' H''/\∃(ad bd:Addr),v=.ref ad/\H'' ad=some (.tup [.int n,.ref bd])/\H'' bd=some (.tup (ms.map V.int))):=by
   refine⟨H0,[.sh d],_,ρ',Ih sm' rd,ef,fun v H0' H'' es rep=>?_⟩;refine⟨fun b o e=>es.stp.s1 b o e fun⟨j,d',h1,_⟩=>?_,?_⟩
   ·cases j with
    |zero=>cases h1
    |succ j=>simp at h1
   ·have G1:Rep H0' v (.tup [.int n,.tup dl]):=rep;cases G1 with
    |tup h1 rs=>
     cases rs with
     |cons r1 rs=>
     cases rs with
     |cons r2 rs=>
     cases rs;cases r1;cases r2 with
     |tup h2 rs2=>have:=m8 rs2 ei;subst this;exact⟨_,_,rfl,es.st.same _ _ h1,es.st.same _ _ h2⟩
  refine wpAny_call (codeAny_mono (Ig (us:=[v]) (vs:=[u]) S hA2 I'.OQ.in1.in1 pin.1 ((lc.mono s').rec I'.hok) (hbind _ _ _ _) (.cons ru .nil) rfl (hb _ _ _ _ _ _ hA2) hq) fun r s'' hcr=>?_);cases r with
  |error e=>exact(show False from hcr)
  |ok fl=>
   cases fl with
   |next=>exact hcr
   |brk=>exact hcr
   |cont=>exact hcr
   |ret uv=>
    obtain⟨v',H'',os,bare,un,hok,rv',sm3,ad,bd,rfl,h1,h2⟩:=hcr;cases rv';have I'':Inv X ((fa,gj X params body scope c ct)::sV) σ H'' s'':=by obtain⟨hh,g,dd,tt,os'⟩:=s'';obtain rfl:os'=_:=os;exact I'.call (ch:=[]) un hok bare (fun b z=>absurd z (by simp))
    have nfr:∀b,b=a\/b=kS->b∉frs X.stack:=fun b hb z=>(S4.mp (I'.rV b z)).elim (fp b hb).1.2.1 (fp b hb).1.2.2.1;refine⟨⟨H'',I'',fun b o e=>sm3 _ _ (s' _ _ e),fun b hb=>?_,done++[n::ms],Bu.tail,?_,?_⟩,fun b o hb e=>un.keep b o e (fp b hb).1.1 (nfr b hb) (by simp)⟩
    ·obtain⟨⟨f0,f1⟩,o,eo⟩:=fp b hb;exact⟨⟨un.free b o eo f0 (by simp),f1⟩,o,un.keep b o eo f0 (nfr b hb) (by simp)⟩
    ·have hl:=g6 pk;rw[Bq,hi.symm,hl,TZ (PU _),WE]at hks;cases Bu with
     |nil=>cases hks
     |cons y Bu=>cases hks;rw[Bq,VA];rfl
    ·refine lg (Paired.B0 pk fun k ks ⟨r,er,a1,b1,n1,m1,e1,g1,g2,g3⟩=>⟨r,er,a1,b1,n1,m1,e1,sm3 _ _ g1,sm3 _ _ g2,g3⟩) ⟨[],rfl,ad,bd,n,ms,rfl,h1,h2,rfl⟩
 ·obtain⟨H',I',sH,fp,done,Bu,Bq,pk⟩:=hj;have hl:=g6 pk;have er:Bu=[]:=by
   have:=congrArg List.length Bq;rw[Tg]at this;exact Vz (by lia)
  subst er;rw[Uu]at Bq;subst Bq
  let ok:Addr->Bool:=fun a=>keys.any fun v=>v == .ref a
  have okT:∀v∈keys,∀a,v=.ref a->ok a=true:=fun v hv a e=>by subst e;exact U6.mpr ⟨_,hv,by simp⟩
  have okI:∀a,ok a=true->Tz a∈keys:=fun a h=>by
   obtain⟨v,hv,e⟩:=U6.mp h;have:v=.ref a:=by simpa using e
   subst this;exact hv
  have pk2:Paired (fun k ks=>∃r,lV H' k ks r) keys kss:=Paired.B0 pk fun k ks ⟨r,_,z⟩=>⟨r,z⟩;have nil:∀{v:Value} {ks:List Int} {r:List V},v∈keys->lV H' v ks r->r=[]:=fun {v ks r} hv ⟨a,b,n,ns,e,h1,h2,h3⟩=>by obtain⟨ks',_,r',er,a',b',n',ns',e',h1',_⟩:=fG pk v hv;rw[e]at e';cases e';rw[h1]at h1';cases h1';exact er
  have hKO:KeysOf (cT H' ok) (keys.toArray.zip its.toArray):=fun q hq=>by rw[show (keys.toArray.zip its.toArray).toList=keys.zip its by simp]at hq;obtain⟨x,y⟩:=q;have hm:=(UY hq).1;obtain⟨ks,_,r,z⟩:=fG pk2 x hm;exact⟨ks,uY z (okT _ hm)⟩
  refine⟨cT H' ok,tuples' true,hKO,fun h2 Q' hq'=>?_,runs (qL fun x y kx ky {Q'} {E''} hx hy q=>?_) hKO (by rw[Array.size_zip,S6,S6];lia),fun xs h'' hp hs kp SW hc=>?_⟩
  ·exact Qk I'.hok (fun _ _ e=>e) (fun v hv=>by obtain⟨ks,_,r,z⟩:=fG pk2 v hv;exact⟨ks,r,z⟩) (by lia) hq'
  ·obtain⟨r1,a1,e1,o1,k1⟩:=qY hx;obtain⟨r2,a2,e2,o2,k2⟩:=qY hy;have m1:=nil (by rw[e1];exact okI _ o1) k1;have m2:=nil (by rw[e2];exact okI _ o2) k2;subst m1 m2;exact lt2 hu I'.hok (fun _ _ e=>e) k1 k2 rfl (fun _=>⟨[],rfl,rfl⟩) q
  ·obtain⟨zs,out,eo,vo,lz,rz⟩:=Bp (H0:=H0) pk2 rv ra hk nd okT hp hs;obtain⟨c',hc⟩:=hc;rw[eo]at hc;have I3:=gZ (fp:=[a,kS]) (t':=s'.toks) I' (fun b hb=>(fp b (by simpa using hb)).1) fun b u hb e=>kp b u (fun z=>hb (by simp[z])) (fun z=>hb (by simp[z])) e;obtain⟨f0,f1,f2,f3,f4,f5⟩:=(fp a (.inl rfl)).1;have hge:s.heap.objs.size<=a:=by lia
   have n0:X.s₀.heap.get? a=none:=Wo (Tq I2.sz hge);have new:aU X.prog X.w (upd H' a (.lst zs)) h'' a (.lst zs):=⟨by rw[lz];exact hzz,out,c',vo,hc⟩
   have I4:=Inv.PZ I3 (o:=.lst zs) f0 new n0 f1 f4 f5;have I5:Inv X sV σ (upd H' a (.lst zs)) { s' with heap:=h'',toks:=s'.toks }:=I4.lZ fun p hp=>I4.pin p (TF _ (gc _ hp));have h1a:H1 a=none:=fr1 a hge;have sm1:au H1 H':=fun b o e=>sH _ _ (s12 _ _ e);have J5:∀b o,H' b=some o->b≠a:=fun b o e z=>by rw[z,f0]at e;cases e
   refine⟨.ref a,_,I5,rfl,kk _ H0 _ ⟨au.refl _,fun b o e=>?_,fun b o e=>.inr e,fun b o e=>?_⟩ ⟨a,rfl,h1a,sm.free h1a,zs,aq,rz⟩⟩
   ·rw[aj (J5 b o (sm1 _ _ e))];exact sm1 _ _ e
   ·have:=sm1 _ _ (sm _ _ e);rw[aj (J5 b o this)];exact this
theorem u5{k:Nat}{x:Str}{e:Expr}{params:Arguments}{body:Expr}{scope:Scope}{f fk:FE}{p pos kpos jM:Pos}{P0:Addr}(hr:aX (k+3) X.A)(hg:Gl X "sorted")(hm:X.mg "sorted" = none)
  (tb:MV X.mg X.base X.env.code P0) (ht:X.H₀ P0=some (.tbl (rawInt jM.line) (rawInt jM.col) (X.env.qual ++ "<lambda>")))
  (S:ak [x] [x] scope) (hbind:∀(pm:Value) (c:Addr) (ct v:Value),bindArgs (Xm "<lambda>" (X.env.qual ++ "<lambda>") params body scope [] pm (.ref c) ct) ⟨[v],[]⟩=pure [(x,v)])
  (ha:DA X [e] [f])
  (hb:∀(fa c:Addr) (A:Around) (outer:List Env) (s:Shared) (H:Hp),aX k A->DE (j4 CX0 X.prog X.w X.K X.mg X.base [x] (X.env.qual ++ "<lambda>") scope fa (.ref c) A outer s H E0).nox body fk)
  (hcl:closureFor scope X.env=pure []:=by rfl) (hdef:defaultsOf params X.env=([],[]):=by rfl)
  (he:backTo pos (starEach [e] X.env)=(false,eval e X.env)::backTo pos (starEach [] X.env):=by rfl) (Fd:(backTo pos (starEach [e] X.env)).any (·.1)=false:=by rfl) :
  DE X (.Call (.Name "sorted" p) [e] [⟨some "key",.Lambda params body scope jM,kpos⟩] pos) (Dm.eB (Dm.gk 63 (Dm.uX fk)) [f]):=by
 intro sV s σ H Q I h;have h':=G3 (Ql _) h;refine wpAny_Call_Name_kw (cW I hg hm (by rfl) ?_ (by decide) (by decide));refine PyProof.Rows.callWith_kw (thn (ha pos sV s σ H _ I h') fun us s1 ⟨vs,H1,I1,r1,q1⟩=>?_) he Fd rfl rfl;refine kws_cons (D4 I1 tb hcl hdef (I1.base.lH _ _ _ _ ht) fun fa c ct H2 s2 I2 lc sm sz=>?_);exact kws_nil (ye (bd:=63) (by decide) (fun hL hk hz=>.short hL hk (Nat.lt_succ_of_le hz)) hr S hbind hb I2 lc sm (fun b hb=>I1.hok.fresh (Tq sz hb)) r1 q1)
end
structure TbZ where
 c:Addr
 P:Addr
 ln:Value
 cl:Value
 q:Str
def Tbs(tb:List TbZ)(H:Hp):Prop:=∀z∈tb,H z.P=some (.tbl z.ln z.cl z.q)
def jO(mg:Str->Option Value)(base:Heap)(z:TbZ):Prop:=WJ base z.c z.P/\base.BuiltinsAt mg z.P
def spT(tb:List TbZ)(g:List Dat->Option RV):Sp:=fun vs H Q E=>Tbs tb H/\spD g vs H Q E
theorem jO.tab{mg:Str->Option Value}{base:Heap}{z:TbZ}{cd:Value}(b:jO mg base z)(e:cd=.ref z.c):MV mg base cd z.P:=⟨⟨_,e,b.1⟩,b.2⟩
section
variable{X:Cx}
def Sh(tb:List TbZ)(t:TA):TA:=fun σ H Q=>t σ H fun vs H1=>Tbs tb H1->Q vs H1
theorem PA.inv{es:List Expr}{t:TA}{tb:List TbZ}(h:PA X es t)(ht:Tbs tb X.H₀):PA X es (Sh tb t):=fun pos sV s σ H Q I q=>thn (h pos sV s σ H _ I q) fun us s1 ⟨vs,H1,I1,r,q1⟩=>⟨vs,H1,I1,r,q1 fun z hz=>I1.base.lH _ _ _ _ (ht z hz)⟩
variable{e:Expr}{es:List Expr}{fs:List FE}{p pos:Pos}
theorem nI{k:Nat}{F:Addr}{fd:FuncData}{ps:List Str}{g:List Dat->Option RV}{x:Str}{c:Int}{tk:Tok}{tb:List TbZ}(ht:Tbs tb X.H₀)(G:aR X.prog X.w X.K X.mg X.base CX0 k F fd ps (spT tb g))(hr:aX k X.A)(hg:Gl X x)(hm:X.mg x=some (.ref F))(hk:Ut X.K (.ref F)=true)(hb:Binds X.K fd ps [.int c tk])
  (ha:DA X (e::es) fs) (Qu:(x == ("__debug__" : Str))=false:=by decide) (he:starEach (e::es) X.env=(false,eval e X.env)::starEach es X.env:=by rfl) (Fd:(backTo pos (starEach es X.env)).any (·.1)=false:=by rfl) :
  DE X (.Call (.Name x p) (e::es) [] pos) (Dm.eF (fun ds=>g (ds++[.int c])) fs):=PE.weak (l7 G hr hg hm hk hb (dvs:=[.int c]) (.cons (show RelV (.int c) (.int c tk) from ⟨tk,rfl⟩) .nil) (ua (X:=X)) (PA.inv ha ht) Qu he Fd) fun σ H Q h=>by
 obtain⟨H0,ρ,xs,ρ',st,e,k⟩:=HP (E:=E0) h;exact⟨H0,ρ,xs,ρ',st,e,fun vs H0' H' es rs ht=>⟨ht,k vs H0' H' es rs⟩⟩
end
section
variable{P:Program}{w:World}{K:Dp}{mg:Str->Option Value}{base:Heap}
section
variable{g:List Dat->Option RV}{N ps:List Str}{fd:FuncData}{x qual:Str}{st:Stmt}{f:Addr}
theorem HL.okT{k:Nat}{tb:List TbZ}(F:HL K x qual st f fd)(S:ak N ps (af st))(len:∀vs H Q E,spD g vs H Q E->vs.length=ps.length)
  (hbody:∀ (cdv:Value) (A:Around) (outer:List Env) (s:Shared) (H:Hp) (vs:List V) (Q:VK) (E:XK),cdv=fd.code→aX k (A.deeper (envOfC qual (af st) s.heap.objs.size f cdv))→Tbs tb H→spD g vs H Q E →
   ∃t,PSs (j4 CX0 P w K mg base N qual (af st) f cdv A outer s H E).nox (aO st) t/\t { nx:=fun _ H'=>Q .non H',rt:=Q } (start N vs) H):aR P w K mg base CX0 (k+1) f fd ps (spT tb g):=by
 obtain⟨oc,od,dV,kV,doc,pm,an,cdv,ct,osl,rfl,lk,J2⟩:=F.ex;refine Cn lk J2 S (fun vs H Q E h=>len vs H Q E h.2) fun A outer s H vs Q E hr hsp=>?_;obtain⟨t,h,q⟩:=hbody cdv A outer s H vs Q E rfl hr hsp.1 hsp.2;exact⟨t,h.nox,q⟩
theorem Ii{k:Nat}{tb:List TbZ}(F:Fun K x qual st f fd)(S:ak N ps (af st))(len:∀vs H Q E,spD g vs H Q E->vs.length=ps.length)
  (hbody:∀ (cdv:Value) (A:Around) (outer:List Env) (s:Shared) (H:Hp) (vs:List V) (Q:VK) (E:XK),cdv=fd.code→aX k (A.deeper (envOfC qual (af st) s.heap.objs.size f cdv))→Tbs tb H→spD g vs H Q E →
   ∃t,PSs (j4 CX0 P w K mg base N qual (af st) f cdv A outer s H E).nox (aO st) t/\t { nx:=fun _ H'=>Q .non H',rt:=Q } (start N vs) H):aR P w K mg base CX0 (k+1) f fd ps (spT tb g):=by
 obtain⟨oc,od,kV,doc,pm,an,cdv,ct,osl,rfl,lk,J2⟩:=F.ex;refine Cn lk J2 S (fun vs H Q E h=>len vs H Q E h.2) fun A outer s H vs Q E hr hsp=>?_;obtain⟨t,h,q⟩:=hbody cdv A outer s H vs Q E rfl hr hsp.1 hsp.2;exact⟨t,h.nox,q⟩
end
end
theorem Bs{P:Program}{w:World}{K:Dp}{mg mb:Str->Option Value}{k:Nat}{fa a:Addr}{fd:FuncData}{x:Str}{g:List Dat->Option RV}{tb:List TbZ}{s₁:Shared}{vs:List Value}{ns:List Int}
  (KX:K.In s₁.heap) (hns:s₁.heap.Ns mainGlobals mg) (hb:s₁.heap.Ns builtinsNs mb) (hbb:∀x:Str,x ≠ "__name__" -> mb x=bootBuiltins x) (hlim:s₁.heap.NoLimit) (hg:s₁.gens=#[])
  (hbm:∃bm ob,mg "__builtins__" = some (.ref bm)/\bm≠builtinsNs/\s₁.heap.get? bm=some ob/\ob.cls=.type "module" /\ ob.dict=some builtinsNs/\ob.data=.plain)
  (ha:s₁.heap.get? a=some { cls:=.type "list",data:=.seq vs.toArray }) (hi:IntsAre vs ns) (hl:ns.length<=sizeLine) (hr:aX k callerA)
  (hT:∀z∈tb,WJ s₁.heap z.c z.P/\s₁.heap.get? z.P=some (WK #[])) (hnd:(tb.map (·.P)).Nodup) (hKt:Xn K=true)
  (F:∀base:Heap,K.In base->base.Ns mainGlobals mg->(∀z∈tb,jO mg base z)->aR P w K mg base CX0 k fa fd [x] (spT tb g)) (hbind:∀(s:Shared) (u:Value),BindsTo s fd ⟨[u],[]⟩ [(x,u)])
  (hsp:∀H:Hp,SqL K H a (ns.map V.int)->spD g [.ref a] H (fun v _=>v=.bl true) fun _ _ _=>False) :
  codeAny (model P w) callerA (.call (.ref fa) ⟨[.ref a],[]⟩) (fun r s'=>r=.ok (.ret (.bool true))/\OldK s₁.heap s'.heap/\s'.os=s₁.os/\AllBare s'.gens) s₁:=by
 have rv:=kC hi;have Si:=hi.length;have noK:∀b o,K.lookup b=some o->s₁.heap.get? b=some (WK #[])->False:=fun b o e h=>by have h2:=Ug.mp hKt (b,o) (PySem.W.mem_of_lookupK e);have:=KX b o e;rw[h]at this;cases this;exact absurd (show false=true from h2) TQ
 have core:∀H:Hp,(∀z∈tb,H z.P=some (.tbl z.ln z.cl z.q))->SqL K H a (ns.map V.int)->HOk P w H s₁.heap->(∀b u,H b=some u->(b=a/\∃o xs,u=.frz o (.lst xs))\/∃z∈tb,b=z.P/\u=.tbl z.ln z.cl z.q)->(H a≠none->K.lookup a=none) ->
   codeAny (model P w) callerA (.call (.ref fa) ⟨[.ref a],[]⟩) (fun r s'=>r=.ok (.ret (.bool true))/\OldK s₁.heap s'.heap/\s'.os=s₁.os/\AllBare s'.gens) s₁:=by
  intro H hO hS hok hA hK;have l9:∀{b:Addr} {o:Obj},s₁.heap.get? b=some o->H b=none->(p7 s₁.heap H).get? b=some o:=fun e n=>B3 e n;have noT:∀{b:Addr} {o:Obj},s₁.heap.get? b=some o->o.cls≠.none->(o.cls≠.type "list")->H b=none:=fun {b o} e h1 h2=>by
   cases q:H b with
   |none=>rfl
   |some u=>
    rcases hA b u q with⟨rfl,_⟩ | ⟨z,hz,rfl,_⟩
    ·rw[ha]at e;cases e;exact absurd rfl h2
    ·rw[(hT z hz).2]at e;cases e;exact absurd rfl h1
  have noA:∀{b:Addr} {o:Obj} {es:Array DictEntry} {ep:Nat},s₁.heap.get? b=some o->o.data=.dict es ep->H b=none:=fun {b o es ep} e d=>by
   cases q:H b with
   |none=>rfl
   |some u=>
    rcases hA b u q with⟨rfl,_⟩ | ⟨z,hz,rfl,_⟩
    ·rw[ha]at e;cases e;cases d
    ·rw[(hT z hz).2]at e;cases e;cases d
  have nsK:∀{b:Addr} {m:Str->Option Value},s₁.heap.Ns b m->(p7 s₁.heap H).Ns b m:=fun {b m} ⟨o,es,ep,e,d,r⟩=>⟨o,es,ep,l9 e (noA e d),d,r⟩;have hKb:K.In (p7 s₁.heap H):=fun b o e=>l9 (KX b o e) (by
   cases q:H b with
   |none=>rfl
   |some u=>
    rcases hA b u q with⟨rfl,_⟩ | ⟨z,hz,rfl,_⟩
    ·rw[hK (by rw[q];simp)]at e;cases e
    ·exact(noK _ _ e (hT z hz).2).elim)
  have hM:Mod K mg (p7 s₁.heap H):=⟨hKb,nsK hns,⟨mb,nsK hb,hbb⟩,let ⟨mc,h1,h2⟩:=hlim;⟨mc,nsK h1,h2⟩⟩
  have e0:t7 P w K mg (p7 s₁.heap H) callerA [] s₁ H:=⟨rfl,hM,fun b o e=>GI e,W0 (AE _ _),trivial,fun b hb=>absurd (show b∈([]:List Addr) from hb) (by simp),hok,.of_eq hg⟩
  have hBT:∀z∈tb,jO mg (p7 s₁.heap H) z:=fun z hz=>by
   obtain⟨o,ws,file,tf,flags,tg,inF,text,tt,e1,r1,r⟩:=(hT z hz).1;obtain⟨bm,ob,b1,b2,b3,b4,b5⟩:=hbm;refine⟨⟨o,ws,file,tf,flags,tg,inF,text,tt,l9 e1 (noT e1 (by rw[r1];decide) (by rw[r1];decide)),r1,r⟩,bm,ob,b1,b2,?_,?_,l9 b3 (noT b3 (by rw[b4];decide) (by rw[b4];decide)),b4,b5⟩
   ·rintro rfl;obtain⟨o',es,ep,e,d,_⟩:=hns;rw[b3]at e;cases e;rw[b5.2]at d;cases d
   ·rintro rfl;rw[(hT z hz).2]at b3;cases b3;cases b4
  refine codeAny_mono ((F _ hKb (nsK hns) hBT).run callerA [] s₁ H ⟨[.ref a],[]⟩ [.ref a] [.ref a] _ _ hr e0 (hbind s₁ (.ref a)) (.cons rfl .nil) ⟨hO,hsp H hS⟩) fun r s' h=>?_;cases r with
  |error e=>exact(show False from h).elim
  |ok fl=>
   cases fl with
   |next=>exact T8 h
   |brk=>exact T8 h
   |cont=>exact T8 h
   |ret u=>
    obtain⟨v,H',os,bare,un,Qm,r',q⟩:=h;have q':v=.bl true:=q;subst q';obtain rfl:u=Xz true:=r';have all:∀b o,s₁.heap.get? b=some o->asItWas s₁.heap s'.heap b o/\∃o',s'.heap.get? b=some o':=fun b o e=>by
     cases q:H b with
     |none=>have:=un.keep b o e q (by intro z;exact absurd (show b∈([]:List Addr) from z) (by simp)) (by simp);exact⟨.inl this,_,this⟩
     |some u=>
      rcases hA b u q with⟨rfl,ob,xs,rfl⟩ | ⟨z,hz,rfl,rfl⟩
      ·have z2:=un.p6 _ ob _ q;obtain⟨e1,_⟩:=hok _ _ q;obtain⟨e2,_⟩:=Qm _ _ z2;rw[e]at e1;cases e1;exact⟨.inl e2,_,e2⟩
      ·obtain⟨ps,e2,_⟩:=Qm _ _ (un.lH _ _ _ _ q);have e3:=(hT z hz).2;rw[e]at e3;cases e3;exact⟨.inr (.inl ⟨((hT z hz).1.tab (hT z hz).2).isCodeTable,rfl,#[],ps,rfl,by rw[Array.empty_append];exact e2⟩),_,e2⟩
    exact⟨rfl,⟨fun b o e=>(all b o e).1,fun b o e=>(all b o e).2⟩,os,bare⟩
 have aP:∀z∈tb,a≠z.P:=fun z hz e=>by have:=(hT z hz).2;rw[<- e,ha]at this;cases this
 let tf:Hp:=fun b=>(tb.find? fun z=>z.P == b).map fun z=>.tbl z.ln z.cl z.q
 have tfI:∀b u,tf b=some u->∃z∈tb,b=z.P/\u=.tbl z.ln z.cl z.q:=fun b u e=>by obtain⟨z,hz,e⟩:=Option.map_eq_some_iff.mp e;exact⟨z,Vi hz,by have:=Wx hz;simpa using(beq_iff_eq.mp this).symm,e.symm⟩
 have tfO:∀z∈tb,tf z.P=some (.tbl z.ln z.cl z.q):=fun z hz=>by
  cases q:tb.find? (fun y=>y.P == z.P) with
  |none=>exact absurd (Va.mp q z hz) (by simp)
  |some y=>
   have e1:y.P=z.P:=by simpa using Wx q
   have:=D5 hnd (Vi q) hz e1;subst this;show (tb.find? (fun y'=>y'.P == y.P)).map _=_;rw[q];rfl
 have tfA:tf a=none:=by
  cases q:tf a with
  |none=>rfl
  |some u=>obtain⟨z,hz,e,_⟩:=tfI a u q;exact absurd e (aP z hz)
 have tok:∀(H:Hp) z,z∈tb->aU P w H s₁.heap z.P (.tbl z.ln z.cl z.q):=fun H z hz=>⟨#[],(hT z hz).2,.inl rfl⟩;cases hk:K.lookup a with
 |some o=>have e:=KX a o hk;rw[ha]at e;cases e;refine core tf tfO (.inr ⟨_,vs.toArray,_,hk,rfl,rfl,rfl,by rw[S6,Si];exact hl,by simpa using rv⟩) (fun b u z=>?_) (fun b u z=>.inr (tfI b u z)) fun z=>absurd tfA z;obtain⟨y,hy,rfl,rfl⟩:=tfI b u z;exact tok _ y hy
 |none=>
  refine core (upd tf a (.frz { cls:=.type "list",data:=.seq vs.toArray } (.lst (ns.map V.int)))) (fun z hz=>by rw[aj (Ne.symm (aP z hz))];exact tfO z hz) (.inl (.inr ⟨{ cls:=.type "list",data:=.seq vs.toArray },aq⟩)) (fun b u z=>?_) (fun b u z=>?_) fun _=>hk
  ·by_cases hb:b=a
   ·subst hb;rw[aq]at z;cases z;exact⟨ha,by rw[Dk];exact hl,vs,_,rv,ha⟩
   ·rw[aj hb]at z;obtain⟨y,hy,rfl,rfl⟩:=tfI b u z;exact tok _ y hy
  ·by_cases hb:b=a
   ·subst hb;rw[aq]at z;cases z;exact .inl ⟨rfl,_,_,rfl⟩
   ·rw[aj hb]at z;exact .inr (tfI b u z)
theorem D7{l:Xc}{n k:Nat}{q:Program}{loose:List Str}{XP:(Str->Option Value)->Heap->Prop}{YP:World->Heap->Prop}{d:DefRec}{K:Params->Dp}{g:List Dat->Option RV}{tb:List TbZ}{x:Str}
  (hn:l.most=some n) (hn2:n<=sizeLine) (hdf:d.params.defaults=[]) (hr:aX k callerA)
  (hY:∀(w:World) (h:Heap),YP w h->(K w.params).In h) (hT:∀(w:World) (h:Heap),YP w h->∀z∈tb,WJ h z.c z.P/\h.get? z.P=some (WK #[])) (hnd:(tb.map (·.P)).Nodup) (hKt:∀w:World,Xn (K w.params)=true)
  (F:∀ (w:World) (mg:Str→Option Value) (fa:Addr) (h:Heap),(K w.params).In h→h.Ns mainGlobals mg→mg d.name=some (.ref fa) →
   ∃fd:FuncData,(∀(s:Shared) (u:Value),BindsTo s fd ⟨[u],[]⟩ [(x,u)]) /\
    ∀base:Heap,(K w.params).In base->base.Ns mainGlobals mg->(∀z∈tb,jO mg base z)->aR l.prog w (K w.params) mg base CX0 k fa fd [x] (spT tb g))
  (hsp:∀(w:World) (H:Hp) (a:Addr) (ns:List Int),ns.length<=n->SqL (K w.params) H a (ns.map V.int)->spD g [.ref a] H (fun v _=>v=.bl true) fun _ _ _=>False) :
  PySem.W.WalkO q loose XP YP l.row.toRowW d [] (fun f vs=>PySem.call f vs):=by
 refine Att.t_ hn hdf fun w s₀ s₁ mg mb fa o pm cd doc a vs ns G Y ho hd J2 hmg hobj hints D9 hg=>?_;have KX:=hY w _ Y;obtain⟨fd,hb,hF⟩:=F w mg fa _ KX G.T.g hmg;exact Bs KX G.T.g G.T.b G.T.builtins G.T.nolimit hg G.T.bmain hobj hints (Tq D9 hn2) hr (hT w _ Y) hnd (hKt w) hF hb fun H hS=>hsp w H a ns D9 hS
end Br
namespace Dm
noncomputable def u6(i:Nat)(ej e:FE):FS:=fun ρ=>match ρ[i]? with
 | some (.ow (.lst _))=>(match eAs [ej,e] ρ with
  | some ([.val (.int j),x],ρ1)=>(match tk ρ1 x with
   |none=>none
   |some (d,ρ2)=>match ρ2[i]? with
    |some (.ow (.lst ds))=>if 0<=j/\j<=ds.length/\ds.length<SZ then some (.nx (ρ2.set i (.ow (.lst (ds.take j.toNat++d::ds.drop j.toNat))))) else none
    |_=>none)
  |_=>none)
 |_=>none
end Dm
namespace Br
open PySem PySem.Spec PyProof.Rows L2
def Qn:V->List V->Hp->VK->Prop:=fun x vs H Q=>∃l xs j y,x=.ref l/\vs=[.int j,y]/\H l=some (.lst xs)/\0<=j/\j<=xs.length/\xs.length<sizeLine/\Q .non (upd H l (.lst (xs.take j.toNat++y::xs.drop j.toNat)))
section
variable{X:Cx}
theorem q_:∀{xs:List V} {us:List Value} (n:Nat),Vals xs us->Vals (xs.take n) (us.take n)
 |_,_,0,_=>by simpa using(Paired.nil:Vals [] [])
 |_,_,_+1,.nil=>by simpa using(Paired.nil:Vals [] [])
 |_,_,n+1,.cons h r=>by simpa using(Paired.cons h (q_ n r):Vals _ _)
theorem rm:∀{xs:List V} {us:List Value} (n:Nat),Vals xs us->Vals (xs.drop n) (us.drop n)
 |_,_,0,r=>by simpa using r
 |_,_,_+1,.nil=>by simpa using(Paired.nil:Vals [] [])
 |_,_,n+1,.cons _ r=>by simpa using rm n r
theorem MW:MtM X "list.insert" Qn:=by
 intro sV s σ H x vs v us Q I rx rv h;obtain⟨l,xs,j,y,rfl,rfl,hH,j0,j1,hz,q⟩:=h;cases rx;cases rv with
 |cons r1 rv=>
 cases rv with
 |cons r2 rv=>
 cases rv;obtain⟨t,rfl⟩:=r1;obtain⟨z,its,n,r,hl,e⟩:=I.LN hH;have D9:=r.length;have hs:sizeLine=2 ^ 24:=rfl;have hfit:¬(!Builtin.List.listFitsIndex j)=true:=by
  have:Builtin.List.listFitsIndex j=true:=by
   unfold Builtin.List.listFitsIndex;simp
   lia
  rw[this];decide
 refine call_meets F.slot_list_insert ⟨_,e,rfl⟩ F.entry_list_insert (F.args_list_insert_3 _ _ _) (PySem.AutoListH.list_insert_list_int_val_1 l its.toArray n j t _ hfit (by rw[S6];lia)) ⟨e,?_⟩;refine⟨.non,_,I.LL (its':=its.take j.toNat++_::its.drop j.toNat) hH e ?_ ((q_ _ r).append (.cons r2 (rm _ r))) (by rw[Tg,TV,Uo,Vo];lia),rfl,q⟩;rw[if_neg (by lia),S6,Nat.min_eq_left (by lia)];apply W2.mp;simp;exact Wa (by rw[Vo];exact PU _)
end
section
variable{σ:L2.St}{H:Hp}{Q:VK}{D:Ends}
theorem Qo{K:Dp}{i:Nat}{fj f:FE}(h:tDS (Dm.u6 i fj f) D σ H):tX (tBM K "list" Qn (mz i) (tDA [fj,f])) D σ H:=by
 obtain⟨H0,ρ,o,st,e,k⟩:=h;unfold Dm.u6 at e;split at e
 case h_2=>cases e
 rename_i ds0 h0;obtain⟨a0,q0,n0,w0⟩:=st.ow i _ h0;refine⟨_,q0,?_⟩;split at e
 case h_2=>cases e
 rename_i j x ρ1 e1;split at e
 ·cases e
 rename_i d ρ2 e2;split at e
 case h_2=>cases e
 rename_i ds h2;split at e
 case isFalse=>cases e
 rename_i hz;cases e;obtain⟨xs0,y0,_⟩:=w0;refine⟨.inl ⟨rfl,xs0,.inl (.inl y0)⟩,?_⟩;refine⟨H0,ρ,_,ρ1,st,e1,fun vs H0' H' t r=>?_⟩;cases r with
 |cons rj rr=>
 cases rr with
 |cons r rr=>
 cases rr;cases Rep.isInt rj;obtain⟨H1,t1,b1,r1,_,_⟩:=take1 t (au.refl _) r e2;obtain⟨a,q,n,w⟩:=t1.st.ow i _ h2;rw[q0]at q;cases q;obtain⟨xs,y,rs⟩:=w;have hl:=rs.length;refine⟨a0,xs,j,_,rfl,rfl,y,hz.1,by lia,Tj (by lia) (show Dm.SZ<=sizeLine by decide),?_⟩;have ow:ao σ ρ2 a0:=⟨i,_,h2,q0⟩
 exact k σ H1 _ ⟨t1.st.write h2 q0 ⟨_,aq,(rs.take _).append (.cons r1 (rs.drop _))⟩,t1.stp.trans (Stp.write ow) fun b z=>.inl (t1.own b z),fun b z=>.inl (t1.own b (cu h2 z)),rfl⟩
end
section
variable{X:Cx}{ej e:Expr}{fj f:FE}{pos:Pos}
theorem J1(i:Nat){x:Str}{px ap cp:Pos}(hj:DE X ej fj)(he:DE X e f)(hi:X.N[i]?=some x:=by rfl)(hv:Vis X.env.scope x:=by trivial)(hd:(x == ("__debug__" : Str))=false:=by decide)
  (J2:(x == ("__classdict__" : Str))=false:=by decide) (Qp:attributeBase (.Name x px) "insert" X.env (eval (.Name x px) X.env)=eval (.Name x px) X.env:=by rfl)
  (hfew:((backTo cp (starEach [ej,e] X.env)).all (fun x=>!x.1)&&(backToKw cp (keywordEach [] X.env)).all (fun x=>x.1.isSome)
   && decide ([ej,e].length+([]:List Keyword).length+(if ([]:List Keyword).isEmpty then 0 else 1)<30))=true:=by rfl)
  (Nb:(ap.endLine == cp.line)=true:=by rfl) (hs:starEach [ej,e] X.env=(false,eval ej X.env)::starEach [e] X.env:=by rfl) (hs2:starEach [e] X.env=(false,eval e X.env)::starEach [] X.env:=by rfl) (Ij:(backTo cp (starEach [e] X.env)).any (·.1)=false:=by rfl)
  (hsw:swapsWith (.Call (.Attribute (.Name x px) "insert" ap) [ej,e] [] cp) none pos.line X.env=pure false:=by rfl) :
  DS X (.Expr (.Call (.Attribute (.Name x px) "insert" ap) [ej,e] [] cp) pos) (Dm.u6 i fj f):=
 PS.weak (l6 (zb Vt PySem.F.slot_list_insert PySem.F.type_list_insert MW (eZ hi hv hd J2) (aa hj (aa he ah hs2) hs) Qp hfew Nb hs Ij) hsw) fun _ _ _=>Qo
end
theorem okQ{P:Program}{w:World}{K:Dp}{mg:Str->Option Value}{base:Heap}{x qual:Str}{st:Stmt}{f:Addr}{fd:FuncData}{N ps:List Str}{k n m:Nat}{body:FS}(F:Fun K x qual st f fd)(S:ak N ps (af st))
  (hb:∀(cdv:Value) (A:Around) (outer:List Env) (s:Shared) (H:Hp) (E:XK),aX k (A.deeper (envOfC qual (af st) s.heap.objs.size f cdv))->DSs (j4 CX0 P w K mg base N qual (af st) f cdv A outer s H E).nox (aO st) body)
  (hn:ps.length=n:=by rfl) (hm:N.length=n+m:=by rfl):aR P w K mg base CX0 (k+1) f fd ps (spD (Dm.fn n m body)):=
 F.ok S (fun vs H Q E h=>(kh h).trans hn.symm) fun cdv A outer s H vs Q E hr h=>⟨_,hb cdv A outer s H E hr,CL hm h⟩
end Br
namespace Dm
section
variable{K:RV->Prop}{o p:Option Dat}{Q:Val->Env->Prop}{ρ:Env}{R:RV->Env->Prop}{N:Env->Prop}{B C:Env->Prop}{d:Dat}{i j:Int}{f:List Dat->Option RV}{α:Type}{ks:List Int}{vs:List Dat}{as:List FE}{ds:List Dat}{xs:List Dat}{a:FE}{X Y:Prop}{g:Dat->Option RV}{c:Bool}{e:FE}{body:FS}{v:RV}{t:FT}{ρ2 ρ3:Env}{n m:Nat}{s u:FS}{k:Int}{it:FI}{bd:FB}
def We(e:FE)(ρ:Env)(Q:Val->Env->Prop):Prop:=∃v ρ',e ρ=some (v,ρ')/\Q v ρ'
def Wt(t:FT)(ρ:Env)(Q:Bool->Env->Prop):Prop:=∃v ρ',t ρ=some (v,ρ')/\Q v ρ'
def Was(as:List FE)(ρ:Env)(Q:List Val->Env->Prop):Prop:=∃v ρ',eAs as ρ=some (v,ρ')/\Q v ρ'
def Wi(it:FI)(ρ:Env)(Q:List Dat->Env->Prop):Prop:=∃v ρ',it ρ=some (v,ρ')/\Q v ρ'
def KO(N:Env->Prop)(R:RV->Env->Prop)(B C:Env->Prop):Out->Prop
 |.nx ρ=>N ρ
 |.ret r ρ=>R r ρ
 |.bk ρ=>B ρ
 |.ct ρ=>C ρ
def Ws(s:FS)(ρ:Env)(N:Env->Prop)(R:RV->Env->Prop)(B C:Env->Prop):Prop:=∃o,s ρ=some o/\KO N R B C o
def Wr(o:Option RV)(P:RV->Prop):Prop:=∃r,o=some r/\P r
def Wif(c:Bool)(X Y:Prop):Prop:=(c=true->X)/\(c=false->Y)
def Wg1(g:Dat->Option RV)(o:Option Dat)(K:RV->Prop):Prop:=∃d v,o=some d/\g d=some v/\K v
def Wg2(g:Dat->Dat->Option RV)(o p:Option Dat)(K:RV->Prop):Prop:=∃d e v,o=some d/\p=some e/\g d e=some v/\K v
def WB(g:List Dat->Option RV)(o:Option (List Dat))(K:RV->Prop):Prop:=∃ds v,o=some ds/\g ds=some v/\K v
def WT(o:Option (List Dat×Env))(K:List Dat->Env->Prop):Prop:=∃ds ρ,o=some (ds,ρ)/\ds.length<=SZ/\K ds ρ
def WF(f:List Dat->Option RV)(ρ:Env)(xs:List Val)(Q:Val->Env->Prop):Prop:=∃ds v,pks ρ xs=some ds/\f ds=some v/\(if dN v.dat then ∃ds' ρ2,tks ρ xs=some (ds',ρ2)/\Q v.bG ρ2 else Q v.bG ρ)
def Wk(ρ:Env)(x:Val)(K:Dat->Env->Prop):Prop:=∃d ρ',tk ρ x=some (d,ρ')/\K d ρ'
theorem Zf(x:X):Wif true X Y:=⟨fun _=>x,fun h=>by cases h⟩
theorem Yl(y:Y):Wif false X Y:=⟨fun h=>(by cases h),fun _=>y⟩
theorem Yh(h:c=true)(x:X):Wif c X Y:=⟨fun _=>x,fun h'=>by rw[h]at h';cases h'⟩
theorem XS(h:c=false)(y:Y):Wif c X Y:=⟨fun h'=>(by rw[h]at h';cases h'),fun _=>y⟩
theorem X4{p:Prop}[Decidable p](x:p->X)(y:¬p->Y):Wif (decide p) X Y:=⟨fun h=>x (of_decide_eq_true h),fun h=>y (of_decide_eq_false h)⟩
theorem S_{i:Nat}(h:ρ[i]?=some (.sh d))(q:Q (.val d) ρ):We (eV i) ρ Q:=⟨_,_,by unfold eV;rw[h],q⟩
theorem XJ{i:Nat}(h:ρ[i]?=some (.ow d))(q:Q (.slot i) ρ):We (eV i) ρ Q:=⟨_,_,by unfold eV;rw[h],q⟩
theorem W_(q:Q (.val d) ρ):We (eC d) ρ Q:=⟨_,_,rfl,q⟩
theorem Yt(h:We a ρ fun x ρ1=>Wg1 g (pk ρ1 x) fun v=>Q v.bG ρ1):We (e1 g a) ρ Q:=by obtain⟨x,ρ1,h1,d,v,h2,h3,q⟩:=h;exact⟨_,_,by unfold Dm.e1;rw[h1];dsimp only;rw[h2];dsimp only;rw[h3],q⟩
theorem U_{g:Dat->Dat->Option RV}{a b:FE}(h:We a ρ fun x ρ1=>We b ρ1 fun y ρ2=>Wg2 g (pk ρ2 x) (pk ρ2 y) fun v=>Q v.bG ρ2):We (e2 g a b) ρ Q:=by obtain⟨x,ρ1,h1,y,ρ2,h2,d,e,v,h3,h4,h5,q⟩:=h;exact⟨_,_,by unfold Dm.e2;rw[h1];dsimp only;rw[h2];dsimp only;rw[h3];dsimp only;rw[h4];dsimp only;rw[h5],q⟩
theorem T_{Q:List Val->Env->Prop}(q:Q [] ρ):Was [] ρ Q:=⟨_,_,rfl,q⟩
theorem m_{r:List FE}{Q:List Val->Env->Prop}(h:We a ρ fun x ρ1=>Was r ρ1 fun xs ρ2=>Q (x::xs) ρ2):Was (a::r) ρ Q:=by obtain⟨x,ρ1,h1,xs,ρ2,h2,q⟩:=h;exact⟨_,_,by unfold eAs;rw[h1];dsimp only;rw[h2],q⟩
theorem XU{g:List Dat->Option RV}(h:Was as ρ fun xs ρ1=>WB g (pks ρ1 xs) fun v=>Q v.bG ρ1):We (eB g as) ρ Q:=by obtain⟨x,ρ1,h1,d,v,h2,h3,q⟩:=h;exact⟨_,_,by unfold eB;rw[h1];dsimp only;rw[h2];dsimp only;rw[h3],q⟩
theorem Yb(h:Was as ρ fun xs ρ1=>WT (tks ρ1 xs) fun ds ρ2=>Q (.val (.tup ds)) ρ2):We (dj as) ρ Q:=by obtain⟨x,ρ1,h1,ds,ρ2,h2,h3,q⟩:=h;exact⟨_,_,by unfold dj;rw[h1];dsimp only;rw[h2];dsimp only;rw[if_pos h3],q⟩
theorem Yc(h:Was as ρ fun xs ρ1=>WT (tks ρ1 xs) fun ds ρ2=>Q (.new (.lst ds)) ρ2):We (d9 as) ρ Q:=by obtain⟨x,ρ1,h1,ds,ρ2,h2,h3,q⟩:=h;exact⟨_,_,by unfold d9;rw[h1];dsimp only;rw[h2];dsimp only;rw[if_pos h3],q⟩
theorem XT{xs:List Val}{K:List Dat->Env->Prop}(k:K ds ρ3)(h:tks ρ xs=some (ds,ρ2))(hn:ρ2=ρ3)(hl:ds.length<=SZ):WT (tks ρ xs) K:=⟨_,_,hn▸h,hl,k⟩
theorem XH(h:Was as ρ fun xs ρ1=>WF f ρ1 xs Q):We (eF f as) ρ Q:=by
 obtain⟨x,ρ1,h1,ds,v,h2,h3,h4⟩:=h;by_cases hb:dN v.dat=true
 ·rw[if_pos hb]at h4;obtain⟨ds',ρ2,h5,q⟩:=h4;exact⟨_,_,by unfold eF;rw[h1];dsimp only;rw[h2];dsimp only;rw[h3];dsimp only;rw[if_pos hb,h5],q⟩
 ·rw[if_neg hb]at h4;exact⟨_,_,by unfold eF;rw[h1];dsimp only;rw[h2];dsimp only;rw[h3];dsimp only;rw[if_neg hb],h4⟩
theorem XC{ρ ρ2 ρ3:Env}{xs:List Val}{ds ds':List Dat}(h2:f ds=some v)(q:Q v.bG ρ3)(h1:pks ρ xs=some ds)(h3:dN v.dat=true)(h4:tks ρ xs=some (ds',ρ2))(hn:ρ2=ρ3):WF f ρ xs Q:=
 ⟨_,_,h1,h2,by rw[if_pos h3];exact⟨_,_,h4,hn▸q⟩⟩
theorem XO{xs:List Val}(h2:f ds=some v)(q:Q v.bG ρ)(h1:pks ρ xs=some ds)(h3:dN v.dat=false):WF f ρ xs Q:=
 ⟨_,_,h1,h2,by rw[if_neg (by rw[h3];decide)];exact q⟩
theorem Y6{a b:FE}(h:Wt t ρ fun c ρ1=>Wif c (We a ρ1 Q) (We b ρ1 Q)):We (eIf t a b) ρ Q:=by
 obtain⟨c,ρ1,h1,h2,h3⟩:=h;cases c with
 |true=>obtain⟨v,ρ2,h4,q⟩:=h2 rfl;exact⟨_,_,by unfold eIf;rw[h1];exact h4,q⟩
 |false=>obtain⟨v,ρ2,h4,q⟩:=h3 rfl;exact⟨_,_,by unfold eIf;rw[h1];exact h4,q⟩
def Wb(v:Val)(K:Bool->Prop):Prop:=∃c,v=.val (.bl c)/\K c
theorem XF{K:Bool->Prop}(k:K c):Wb (.val (.bl c)) K:=⟨c,rfl,k⟩
theorem Zb{a b:FE}(h:We a ρ fun v ρ1=>Wb v fun c=>Wif c (We b ρ1 Q) (Q (.val (.bl false)) ρ1)):We (lO a b) ρ Q:=by
 obtain⟨v,ρ1,h1,c,rfl,h2,h3⟩:=h;cases c with
 |true=>obtain⟨v,ρ2,h4,q⟩:=h2 rfl;exact⟨_,_,by unfold lO;rw[h1];exact h4,q⟩
 |false=>exact⟨_,_,by unfold lO;rw[h1],h3 rfl⟩
theorem Zc(h:We a ρ fun v ρ1=>Wb v fun c=>Q (.val (.bl (!c))) ρ1):We (A0 a) ρ Q:=by obtain⟨v,ρ1,h1,c,rfl,h2⟩:=h;exact⟨_,_,by unfold A0;rw[h1],h2⟩
theorem XN{Q:Bool->Env->Prop}(h:We a ρ fun v ρ1=>Wb v fun c=>Q c ρ1):Wt (tV a) ρ Q:=by obtain⟨v,ρ1,h1,c,rfl,h2⟩:=h;exact⟨_,_,by unfold tV;rw[h1],h2⟩
theorem Yj{Q:Bool->Env->Prop}(h:Wt t ρ fun c ρ1=>Q (!c) ρ1):Wt (ez t) ρ Q:=by obtain⟨v,ρ1,h1,h2⟩:=h;exact⟨_,_,by unfold ez;rw[h1],h2⟩
theorem YD{t u:FT}{Q:Bool->Env->Prop}(h:Wt t ρ fun c ρ1=>Wif c (Wt u ρ1 Q) (Q false ρ1)):Wt (lJ t u) ρ Q:=by
 obtain⟨c,ρ1,h1,h2,h3⟩:=h;cases c with
 |true=>obtain⟨v,ρ2,h4,q⟩:=h2 rfl;exact⟨_,_,by unfold lJ;rw[h1];exact h4,q⟩
 |false=>exact⟨_,_,by unfold lJ;rw[h1],h3 rfl⟩
theorem Yu{t u:FT}{Q:Bool->Env->Prop}(h:Wt t ρ fun c ρ1=>Wif c (Q true ρ1) (Wt u ρ1 Q)):Wt (tOr t u) ρ Q:=by
 obtain⟨c,ρ1,h1,h2,h3⟩:=h;cases c with
 |false=>obtain⟨v,ρ2,h4,q⟩:=h3 rfl;exact⟨_,_,by unfold tOr;rw[h1];exact h4,q⟩
 |true=>exact⟨_,_,by unfold tOr;rw[h1],h2 rfl⟩
theorem ZG{Q:Bool->Env->Prop}(h:We a ρ fun x ρ1=>∃d c,pk ρ1 x=some d/\truth d=some c/\Q c ρ1):Wt (tTr a) ρ Q:=by obtain⟨x,ρ1,h1,d,c,h2,h3,q⟩:=h;exact⟨_,_,by unfold tTr;rw[h1];dsimp only;rw[h2];dsimp only;rw[h3],q⟩
theorem Y9{Q:Bool->Env->Prop}(q:Q true ρ):Wt bZ ρ Q:=⟨_,_,rfl,q⟩
theorem XD{K:Dat->Env->Prop}(k:K d ρ):Wk ρ (.val d) K:=⟨_,_,rfl,k⟩
theorem X8{K:Dat->Env->Prop}(k:K d ρ):Wk ρ (.new d) K:=⟨_,_,rfl,k⟩
theorem Y0{ρ ρ':Env}{i:Nat}{K:Dat->Env->Prop}(k:K d ρ')(h:ρ[i]?=some (.ow d))(hs:ρ.set i (.sh d)=ρ'):Wk ρ (.slot i) K:=⟨_,_,by unfold tk;dsimp only;rw[h];dsimp only;rw[hs],k⟩
noncomputable def Bt:Dat->Option (List Dat)
 |.lst ds=>some ds
 |.tup ds=>some ds
 |_=>none
theorem Ym{Q:List Dat->Env->Prop}(h:We a ρ fun x ρ1=>Wk ρ1 x fun d ρ2=>∃ds,Bt d=some ds/\Q ds ρ2):Wi (iS a) ρ Q:=by
 obtain⟨x,ρ1,h1,d,ρ2,h2,ds,hd,q⟩:=h;cases d with
 |lst xs=>cases hd;exact⟨_,_,by unfold iS;rw[h1];dsimp only;rw[h2],q⟩
 |tup xs=>cases hd;exact⟨_,_,by unfold iS;rw[h1];dsimp only;rw[h2],q⟩
 |_=>cases hd
def cj(v:Val)(K:Int->Prop):Prop:=∃i,v=.val (.int i)/\K i
theorem cj.mk{i:Int}{K:Int->Prop}(k:K i):cj (.val (.int i)) K:=⟨i,rfl,k⟩
theorem Yx{Q:List Dat->Env->Prop}(h:We a ρ fun v ρ1=>cj v fun j=>Q (ups 0 j.toNat) ρ1/\j<=BIG/\-BIG<=j):Wi (iR1 a) ρ Q:=by obtain⟨v,ρ1,h1,j,rfl,q,h2⟩:=h;exact⟨_,_,by unfold iR1;rw[h1];dsimp only;rw[if_pos h2],q⟩
theorem Yr{a b:FE}{Q:List Dat->Env->Prop}(h:We a ρ fun v ρ1=>cj v fun i=>We b ρ1 fun w ρ2=>cj w fun j=>Q (ups i (j-i).toNat) ρ2/\j<=BIG/\-BIG<=j/\i<=BIG/\-BIG<=i):Wi (iR2 a b) ρ Q:=by obtain⟨v,ρ1,h1,i,rfl,w,ρ2,h2,j,rfl,q,h3⟩:=h;exact⟨_,_,by unfold iR2;rw[h1];dsimp only;rw[h2];dsimp only;rw[if_pos h3],q⟩
theorem Zt{Q:List Dat->Env->Prop}(h:We a ρ fun x ρ1=>Wk ρ1 x fun d ρ2=>∃ds,d=.lst ds/\Q ds.reverse ρ2):Wi (A9 a) ρ Q:=by obtain⟨x,ρ1,h1,d,ρ2,h2,ds,rfl,q⟩:=h;exact⟨_,_,by unfold A9;rw[h1];dsimp only;rw[h2],q⟩
theorem ZD{Q:List Dat->Env->Prop}(h:We a ρ fun x ρ1=>Wk ρ1 x fun d ρ2=>∃ds,d=.lst ds/\Q (jK 0 ds) ρ2):Wi (iEn a) ρ Q:=by obtain⟨x,ρ1,h1,d,ρ2,h2,ds,rfl,q⟩:=h;exact⟨_,_,by unfold iEn;rw[h1];dsimp only;rw[h2],q⟩
theorem XX(n:N ρ):Ws sNx ρ N R B C:=⟨_,rfl,n⟩
theorem V_(h:Ws s ρ (fun ρ1=>Ws u ρ1 N R B C) R B C):Ws (aF s u) ρ N R B C:=by
 obtain⟨o,h1,h2⟩:=h;cases o with
 |nx ρ1=>obtain⟨o,h3,h4⟩:=h2;exact⟨o,by unfold aF;rw[h1];exact h3,h4⟩
 |ret r ρ1=>exact⟨.ret r ρ1,by unfold aF;rw[h1],h2⟩
 |bk ρ1=>exact⟨.bk ρ1,by unfold aF;rw[h1],h2⟩
 |ct ρ1=>exact⟨.ct ρ1,by unfold aF;rw[h1],h2⟩
def WA(i:Nat)(v:Val)(ρ:Env)(N:Env->Prop):Prop:=match v with
 |.new d=>N (ρ.set i (.ow d))
 |x=>Wk ρ x fun d ρ2=>N (ρ2.set i (.sh d))
theorem XE{i:Nat}(h:We e ρ fun v ρ1=>WA i v ρ1 N)(hi:i≠0):Ws (sA i e) ρ N R B C:=by
 obtain⟨v,ρ1,h1,h2⟩:=h;cases v with
 |new d=>exact⟨.nx _,by unfold sA;rw[if_neg hi,h1],h2⟩
 |val d=>obtain⟨d',ρ2,h3,h4⟩:=h2;exact⟨.nx _,by unfold sA;rw[if_neg hi,h1];dsimp only;rw[h3],h4⟩
 |slot j=>obtain⟨d',ρ2,h3,h4⟩:=h2;exact⟨.nx _,by unfold sA;rw[if_neg hi,h1];dsimp only;rw[h3],h4⟩
theorem XI{i:Nat}{ρ ρ2:Env}(n:N ρ2)(hs:ρ.set i (.ow d)=ρ2):WA i (.new d) ρ N:=by unfold WA;dsimp only;rw[hs];exact n
theorem XR{i:Nat}{ρ ρ2:Env}(n:N ρ2)(hs:ρ.set i (.sh d)=ρ2):WA i (.val d) ρ N:=⟨_,_,rfl,by show N _;rw[hs];exact n⟩
theorem Y3{i j:Nat}{ρ ρ2:Env}(n:N ρ2)(h:ρ[j]?=some (.ow d))(hs:(ρ.set j (.sh d)).set i (.sh d)=ρ2):WA i (.slot j) ρ N:=⟨_,_,by unfold tk;dsimp only;rw[h],by show N _;rw[hs];exact n⟩
theorem Yk(h:We e ρ fun _ ρ1=>N ρ1):Ws (sE e) ρ N R B C:=by obtain⟨x,ρ1,h1,n⟩:=h;exact⟨.nx _,by unfold sE;rw[h1],n⟩
def WR(v:Val)(ρ:Env)(R:RV->Env->Prop):Prop:=match v with
 |.new d=>R (.new d) ρ
 |.val d=>R (.val d) ρ
 |.slot i=>(∃d,ρ[i]?=some (.ow d)/\R (.new d) (ρ.set i .un))
theorem XQ(h:We e ρ fun v ρ1=>WR v ρ1 R):Ws (sR e) ρ N R B C:=by
 obtain⟨v,ρ1,h1,h2⟩:=h;cases v with
 |new d=>exact⟨.ret _ _,by unfold sR;rw[h1],h2⟩
 |val d=>exact⟨.ret _ _,by unfold sR;rw[h1],h2⟩
 |slot i=>obtain⟨d,h3,h4⟩:=h2;exact⟨.ret _ _,by unfold sR;rw[h1];dsimp only;rw[h3],h4⟩
theorem YC(r:R (.new d) ρ):WR (.new d) ρ R:=r
theorem YW(r:R (.val d) ρ):WR (.val d) ρ R:=r
theorem X0{i:Nat}(r:R (.new d) (ρ.set i .un))(h:ρ[i]?=some (.ow d)):WR (.slot i) ρ R:=⟨d,h,r⟩
theorem XW{a b:FS}(h:Wt t ρ fun c ρ1=>Wif c (Ws a ρ1 N R B C) (Ws b ρ1 N R B C)):Ws (sIf t a b) ρ N R B C:=by
 obtain⟨c,ρ1,h1,h2,h3⟩:=h;cases c with
 |true=>obtain⟨o,h4,q⟩:=h2 rfl;exact⟨_,by unfold sIf;rw[h1];exact h4,q⟩
 |false=>obtain⟨o,h4,q⟩:=h3 rfl;exact⟨_,by unfold sIf;rw[h1];exact h4,q⟩
theorem Yi{i:Nat}{ds0:List Dat}(h:We e ρ fun x ρ1=>Wk ρ1 x fun d ρ2=>∃ds ρ3,ρ2[i]?=some (.ow (.lst ds))/\ρ2.set i (.ow (.lst (ds++[d])))=ρ3/\N ρ3/\ds.length<SZ)(h0:ρ[i]?=some (.ow (.lst ds0))):Ws (p9 i e) ρ N R B C:=by obtain⟨x,ρ1,h1,d,ρ2,h2,ds,ρ3,h3,h5,n,h4⟩:=h;exact⟨.nx _,by unfold p9;rw[h0];dsimp only;rw[h1];dsimp only;rw[h2];dsimp only;rw[h3];dsimp only;rw[if_pos h4,h5],n⟩
theorem kI{i:Nat}(n:N ρ3)(h:ρ2[i]?=some (.ow (.lst ds)))(hs:ρ2.set i (.ow (.lst (ds++[d])))=ρ3)(hl:ds.length<SZ):∃ds ρ3,ρ2[i]?=some (.ow (.lst ds))/\ρ2.set i (.ow (.lst (ds++[d])))=ρ3/\N ρ3/\ds.length<SZ:=⟨_,_,h,hs,n,hl⟩
theorem Zd{i:Nat}{j e:FE}(h:We e ρ fun x ρ1=>Wk ρ1 x fun d ρ2=>(∃d0,ρ2[i]?=some (.ow d0))/\We j ρ2 fun y ρ3=>cj y fun k=>∃ds m ρ4,ρ3[i]?=some (.ow (.lst ds))/\ixN ds.length k=some m/\ρ3.set i (.ow (.lst (ds.set m d)))=ρ4/\N ρ4):Ws (xy i j e) ρ N R B C:=by obtain⟨x,ρ1,h1,d,ρ2,h2,⟨d0,h0⟩,y,ρ3,h3,k,rfl,ds,m,ρ4,h4,h5,h6,n⟩:=h;exact⟨.nx _,by unfold xy;rw[h1];dsimp only;rw[h2];dsimp only;rw[h0];dsimp only;rw[h3];dsimp only;rw[h4];dsimp only;rw[h5];dsimp only;rw[h6],n⟩
theorem Y8{i:Nat}{j e:FE}(h:We e ρ fun x ρ1=>Wk ρ1 x fun d ρ2=>(∃d0,ρ2[i]?=some (.ow d0))/\We j ρ2 fun y ρ3=>cj y fun k=>∃ks vs ρ4,ρ3[i]?=some (.ow (.dct ks vs))/\ρ3.set i (.ow (.dct (kY ks k) (kZ ks vs k d)))=ρ4/\N ρ4/\ks.length<SZ):Ws (m6 i j e) ρ N R B C:=by obtain⟨x,ρ1,h1,d,ρ2,h2,⟨d0,h0⟩,y,ρ3,h3,k,rfl,ks,vs,ρ4,h4,h5,n,h6⟩:=h;exact⟨.nx _,by unfold m6;rw[h1];dsimp only;rw[h2];dsimp only;rw[h0];dsimp only;rw[h3];dsimp only;rw[h4];dsimp only;rw[if_pos h6,h5],n⟩
theorem sU{i:Nat}{ρ3 ρ4:Env}(n:N ρ4)(h:ρ3[i]?=some (.ow (.dct ks vs)))(hs:ρ3.set i (.ow (.dct (kY ks k) (kZ ks vs k d)))=ρ4)(hl:ks.length<SZ):∃ks vs ρ4,ρ3[i]?=some (.ow (.dct ks vs))/\ρ3.set i (.ow (.dct (kY ks k) (kZ ks vs k d)))=ρ4/\N ρ4/\ks.length<SZ:=⟨_,_,_,h,hs,n,hl⟩
theorem XY(h:Wi it ρ fun ds ρ1=>Ws (j8 bd body ds) ρ1 N R B C):Ws (fm it bd body) ρ N R B C:=by obtain⟨ds,ρ1,h1,o,h2,h3⟩:=h;exact⟨o,by unfold fm;rw[h1];exact h2,h3⟩
theorem XZ(sY:α->Dat)(bd:FB)(body:FS)(xs:List α)(ρ:Env)(N:Env->Prop)(R:RV->Env->Prop)(B C:Env->Prop)(I:List α->List α->Env->Prop)
  (h0:I [] xs ρ) (hs:∀p x q ρ,xs=p++x::q->I p (x::q) ρ->∃ρ1,bd (sY x) ρ=some ρ1/\Ws body ρ1 (fun ρ2=>I (p++[x]) q ρ2) R N (fun ρ2=>I (p++[x]) q ρ2)) (he:∀ρ,I xs [] ρ->N ρ):Ws (j8 bd body (xs.map sY)) ρ N R B C:=by
 have go:∀(q p:List α) (ρ:Env),xs=p++q->I p q ρ->Ws (j8 bd body (q.map sY)) ρ N R B C:=fun q=>by
  induction q with
  |nil=>intro p ρ e i;rw[Uu]at e;exact⟨.nx _,rfl,he ρ (e▸i)⟩
  |cons x q ih=>
   intro p ρ e i;obtain⟨ρ1,h1,o,h2,h3⟩:=hs p x q ρ e i;have e':xs=(p++[x])++q:=by rw[VA];exact e
   cases o with
   |nx ρ2=>obtain⟨o,h4,h5⟩:=ih _ _ e' h3;exact⟨o,by rw[eg,j8,h1];dsimp only;rw[h2];exact h4,h5⟩
   |ct ρ2=>obtain⟨o,h4,h5⟩:=ih _ _ e' h3;exact⟨o,by rw[eg,j8,h1];dsimp only;rw[h2];exact h4,h5⟩
   |bk ρ2=>exact⟨.nx _,by rw[eg,j8,h1];dsimp only;rw[h2],h3⟩
   |ret r ρ2=>exact⟨.ret _ _,by rw[eg,j8,h1];dsimp only;rw[h2],h3⟩
 exact go xs [] ρ rfl h0
theorem XG{P:RV->Prop}(b:Ws body ρ (fun _=>P (.val .non)) (fun r _=>P r) (fun _=>False) (fun _=>False))(hρ:ds.map Cell.sh++S5 m .un=ρ)(h:ds.length=n):Wr (fn n m body ds) P:=by
 obtain⟨o,h1,h2⟩:=b;cases o with
 |nx ρ1=>exact⟨_,by unfold Dm.fn;rw[if_pos h,hρ,h1],h2⟩
 |ret r ρ1=>exact⟨_,by unfold Dm.fn;rw[if_pos h,hρ,h1],h2⟩
 |bk ρ1=>exact h2.elim
 |ct ρ1=>exact h2.elim
theorem XM{o:Option RV}{r:RV}(h:Wr o fun x=>x=r):o=some r:=by obtain⟨x,h1,rfl⟩:=h;exact h1
theorem u7(sY:α->Dat)(p:α->Bool)(v:α->Dat)(bd:FB)(t:FT)(el:FE)(mk:Cell->Env)(hb:∀d c,bd d (mk c)=some (mk (.sh d))):∀(xs:List α) (c:Cell) (tG:List Dat),
  (∀x∈xs,t (mk (.sh (sY x)))=some (p x,mk (.sh (sY x))))->(∀x∈xs,p x=true->We el (mk (.sh (sY x))) fun w ρ'=>Wk ρ' w fun d ρ''=>d=v x/\ρ''=mk (.sh (sY x))) ->
  ∃c',cF bd t el (xs.map sY) (mk c) tG=some (tG++(xs.filter p).map v,mk c')
 |[],c,tG,_,_=>⟨c,by simp[cF]⟩
 |x::xs,c,tG,ht,he=>by
  rw[eg,cF,hb];dsimp only;rw[ht x gV];have ht':=fun y hy=>ht y (gc _ hy);have he':=fun y hy=>he y (gc _ hy);by_cases h:p x=true
  ·obtain⟨w,ρ',h1,d,ρ'',h2,rfl,rfl⟩:=he x gV h;rw[h];dsimp only;rw[h1];dsimp only;rw[h2];obtain⟨c',e⟩:=u7 sY p v bd t el mk hb xs (.sh (sY x)) (tG++[v x]) ht' he';exact⟨c',by dsimp only;rw[e,Us h];simp⟩
  ·rw[Bool.not_eq_true]at h;rw[h];obtain⟨c',e⟩:=u7 sY p v bd t el mk hb xs (.sh (sY x)) tG ht' he';exact⟨c',by dsimp only;rw[e,Ur (by rw[h];decide)]⟩
theorem YG(h:Wt t ρ fun c' ρ'=>c'=c/\ρ'=ρ):t ρ=some (c,ρ):=by obtain⟨_,_,h1,rfl,rfl⟩:=h;exact h1
theorem YM(sY:α->Dat)(xs:List α)(p:α->Bool)(v:α->Dat){it:FI}{k:Nat}{t:FT}{el:FE}{ρ ρ1:Env}{Q:Val->Env->Prop}
  (q:Q (.new (.lst ((xs.filter p).map v))) ρ1) (ER:it ρ=some (xs.map sY,ρ1)) (hk:ρ1.length=k) (hk0:k≠0) (hl:xs.length<=SZ)
  (ht:∀x∈xs,Wt t (ρ1++[.sh (sY x)]) fun c ρ'=>c=p x/\ρ'=ρ1++[.sh (sY x)])
  (he:∀x∈xs,p x=true->We el (ρ1++[.sh (sY x)]) fun w ρ'=>Wk ρ' w fun d ρ''=>d=v x/\ρ''=ρ1++[.sh (sY x)]):We (bU it 1 (bN k) t el) ρ Q:=by
 have bd:∀(d:Dat) (c:Cell),bN k d (ρ1++[c])=some (ρ1++[.sh d]):=fun d c=>by unfold bN;rw[if_neg hk0,Uh _ _ (by lia)];simp[hk]
 obtain⟨c',e⟩:=u7 sY p v (bN k) t el (fun c=>ρ1++[c]) bd xs .un [] (fun x hx=>YG (ht x hx)) he;refine⟨_,_,?_,q⟩;unfold bU;rw[ER];dsimp only;rw[if_pos (by rw[Dk];exact hl)];show (match cF _ _ _ _ (ρ1++[.un]) [] with | none=>none | some (ys,ρ2)=>some (Val.new (.lst ys),ρ2.take ρ1.length))=_;rw[e];dsimp only;rw[VN,VH]
theorem Zl(sY:α->Dat)(xs:List α)(p:α->Bool)(v:α->Dat){i:Nat}{k:Nat}{t:FT}{el:FE}{ρ:Env}{Q:Val->Env->Prop}{d:Dat}
  (q:Q (.new (.lst ((xs.filter p).map v))) ρ) (hi:ρ[i]?=some (.sh d)) (hd:Bt d=some (xs.map sY)) (hk:ρ.length=k) (hk0:k≠0) (hl:xs.length<=SZ)
  (ht:∀x∈xs,Wt t (ρ++[.sh (sY x)]) fun c ρ'=>c=p x/\ρ'=ρ++[.sh (sY x)])
  (he:∀x∈xs,p x=true->We el (ρ++[.sh (sY x)]) fun w ρ'=>Wk ρ' w fun d ρ''=>d=v x/\ρ''=ρ++[.sh (sY x)]):We (aM i 1 (bN k) t el) ρ Q:=by
 have ER:iS (eV i) ρ=some (xs.map sY,ρ):=by
  unfold iS eV;rw[hi];cases d with
  |lst ys=>cases hd;rfl
  |tup ys=>cases hd;rfl
  |_=>cases hd
 obtain⟨a,ρ',h1,h2⟩:=YM sY xs p v (Q:=Q) q ER hk hk0 hl ht he;refine⟨a,ρ',?_,h2⟩;unfold aM;rw[hi];exact h1
theorem Zk(sY:α->Dat)(xs:List α)(p:α->Bool)(v:α->Dat){i:Nat}{k:Nat}{t:FT}{el:FE}{ρ ρ1:Env}{Q:Val->Env->Prop}
  (q:Q (.new (.lst ((xs.filter p).map v))) ρ) (hi:ρ[i]?=some (.ow (.lst (xs.map sY)))) (h1:ρ.set i .un=ρ1) (hk:ρ.length=k) (hk0:k≠0) (hl:xs.length<=SZ)
  (ht:∀x∈xs,Wt t (ρ1++[.sh (sY x)]) fun c ρ'=>c=p x/\ρ'=ρ1++[.sh (sY x)])
  (he:∀x∈xs,p x=true->We el (ρ1++[.sh (sY x)]) fun w ρ'=>Wk ρ' w fun d ρ''=>d=v x/\ρ''=ρ1++[.sh (sY x)]):We (aM i 1 (bN k) t el) ρ Q:=by
 have D9:ρ1.length=ρ.length:=by rw[<- h1,T4]
 have hil:i<ρ.length:=(S7.mp hi).1;have bd:∀(d:Dat) (c:Cell),bN k d (ρ1++[c])=some (ρ1++[.sh d]):=fun d c=>by unfold bN;rw[if_neg hk0,Uh _ _ (by lia)];simp[hk,D9]
 obtain⟨c',e⟩:=u7 sY p v (bN k) t el (fun c=>ρ1++[c]) bd xs .un [] (fun x hx=>YG (ht x hx)) he;refine⟨_,_,?_,q⟩;unfold aM;rw[hi];dsimp only;rw[if_pos (by rw[Dk];exact hl),h1];show (match cF _ _ _ _ (ρ1++[.un]) [] with | none=>none | some (ys,ρ2)=>some (Val.new (.lst ys),(ρ2.take ρ.length).set i (.ow (.lst (xs.map sY)))))=_;rw[e];dsimp only;rw[VN,<- D9,VH,<- h1,Xu]
 congr 2
 apply VC;intro j;by_cases h:i=j
 ·subst h;rw[TN hil,hi]
 ·rw[HT h]
theorem Yn{α β:Type}(sY:α->Dat)(xs:List α)(f:α->β)(cL:β->Dat){it:FI}{k:Nat}{el:FE}{ρ ρ1:Env}{Q:Val->Env->Prop}
  (q:Q (.new (.lst ((xs.map f).map cL))) ρ1) (ER:it ρ=some (xs.map sY,ρ1)) (hk:ρ1.length=k) (hk0:k≠0) (hl:xs.length<=SZ)
  (he:∀x∈xs,We el (ρ1++[.sh (sY x)]) fun w ρ'=>Wk ρ' w fun d ρ''=>d=cL (f x)/\ρ''=ρ1++[.sh (sY x)]):We (bU it 1 (bN k) bZ el) ρ Q:=
 YM sY xs (fun _=>true) (fun x=>cL (f x)) (by rw[Vr.mpr (fun _ _=>rfl)];rw[Uj]at q;exact q) ER hk hk0 hl (fun _ _=>Y9 ⟨rfl,rfl⟩) fun x hx _=>he x hx
theorem Ye{α β:Type}(sY:α->Dat)(xs:List α)(f:α->β)(cL:β->Dat){i:Nat}{k:Nat}{el:FE}{ρ:Env}{Q:Val->Env->Prop}{d:Dat}
  (q:Q (.new (.lst ((xs.map f).map cL))) ρ) (hi:ρ[i]?=some (.sh d)) (hd:Bt d=some (xs.map sY)) (hk:ρ.length=k) (hk0:k≠0) (hl:xs.length<=SZ)
  (he:∀x∈xs,We el (ρ++[.sh (sY x)]) fun w ρ'=>Wk ρ' w fun d ρ''=>d=cL (f x)/\ρ''=ρ++[.sh (sY x)]):We (aM i 1 (bN k) bZ el) ρ Q:=
 Zl sY xs (fun _=>true) (fun x=>cL (f x)) (by rw[Vr.mpr (fun _ _=>rfl)];rw[Uj]at q;exact q) hi hd hk hk0 hl (fun _ _=>Y9 ⟨rfl,rfl⟩) fun x hx _=>he x hx
theorem YO{α β:Type}(sY:α->Dat)(xs:List α)(f:α->β)(cL:β->Dat){i:Nat}{k:Nat}{el:FE}{ρ ρ1:Env}{Q:Val->Env->Prop}
  (q:Q (.new (.lst ((xs.map f).map cL))) ρ) (hi:ρ[i]?=some (.ow (.lst (xs.map sY)))) (h1:ρ.set i .un=ρ1) (hk:ρ.length=k) (hk0:k≠0) (hl:xs.length<=SZ)
  (he:∀x∈xs,We el (ρ1++[.sh (sY x)]) fun w ρ'=>Wk ρ' w fun d ρ''=>d=cL (f x)/\ρ''=ρ1++[.sh (sY x)]):We (aM i 1 (bN k) bZ el) ρ Q:=
 Zk sY xs (fun _=>true) (fun x=>cL (f x)) (by rw[Vr.mpr (fun _ _=>rfl)];rw[Uj]at q;exact q) hi h1 hk hk0 hl (fun _ _=>Y9 ⟨rfl,rfl⟩) fun x hx _=>he x hx
theorem Ys{α β:Type}(sY:α->Dat)(xs:List α)(p:α->Bool)(f:α->β)(cL:β->Dat){i:Nat}{k:Nat}{t:FT}{el:FE}{ρ:Env}{Q:Val->Env->Prop}{d:Dat}
  (q:Q (.new (.lst (((xs.filter p).map f).map cL))) ρ) (hi:ρ[i]?=some (.sh d)) (hd:Bt d=some (xs.map sY)) (hk:ρ.length=k) (hk0:k≠0) (hl:xs.length<=SZ)
  (ht:∀x∈xs,Wt t (ρ++[.sh (sY x)]) fun c ρ'=>c=p x/\ρ'=ρ++[.sh (sY x)])
  (he:∀x∈xs,p x=true->We el (ρ++[.sh (sY x)]) fun w ρ'=>Wk ρ' w fun d ρ''=>d=cL (f x)/\ρ''=ρ++[.sh (sY x)]):We (aM i 1 (bN k) t el) ρ Q:=
 Zl sY xs p (fun x=>cL (f x)) (by rw[Uj]at q;exact q) hi hd hk hk0 hl ht he
theorem ZF{α β:Type}(sY:α->Dat)(xs:List α)(p:α->Bool)(f:α->β)(cL:β->Dat){i:Nat}{k:Nat}{t:FT}{el:FE}{ρ ρ1:Env}{Q:Val->Env->Prop}
  (q:Q (.new (.lst (((xs.filter p).map f).map cL))) ρ) (hi:ρ[i]?=some (.ow (.lst (xs.map sY)))) (h1:ρ.set i .un=ρ1) (hk:ρ.length=k) (hk0:k≠0) (hl:xs.length<=SZ)
  (ht:∀x∈xs,Wt t (ρ1++[.sh (sY x)]) fun c ρ'=>c=p x/\ρ'=ρ1++[.sh (sY x)])
  (he:∀x∈xs,p x=true->We el (ρ1++[.sh (sY x)]) fun w ρ'=>Wk ρ' w fun d ρ''=>d=cL (f x)/\ρ''=ρ1++[.sh (sY x)]):We (aM i 1 (bN k) t el) ρ Q:=
 Zk sY xs p (fun x=>cL (f x)) (by rw[Uj]at q;exact q) hi h1 hk hk0 hl ht he
theorem zP(i j:Int):gEq (.int i) (.int j)=vB (decide (i=j)):=by
 have:(i == j)=decide (i=j):=by by_cases h:i=j<;>simp[h]
 show vB (i == j)=_;rw[this]
theorem sW(i j:Int):gNe (.int i) (.int j)=vB (!decide (i=j)):=by
 have:(i == j)=decide (i=j):=by by_cases h:i=j<;>simp[h]
 show vB (!(i == j))=_;rw[this]
theorem X_(k:K (.val (.bl (decide (i=j)))))(ho:o=some (.int i))(hp:p=some (.int j)):Wg2 gEq o p K:=⟨_,_,_,ho,hp,zP i j,k⟩
theorem Ze(k:K (.val (.bl (!decide (i=j)))))(ho:o=some (.int i))(hp:p=some (.int j)):Wg2 gNe o p K:=⟨_,_,_,ho,hp,sW i j,k⟩
theorem YH{i j:Bool}(k:K (.val (.bl (!(i == j)))))(ho:o=some (.bl i))(hp:p=some (.bl j)):Wg2 gNe o p K:=⟨_,_,_,ho,hp,rfl,k⟩
theorem Yo(k:K (.val (.bl (decide (i<j)))))(ho:o=some (.int i))(hp:p=some (.int j)):Wg2 gLt o p K:=⟨_,_,_,ho,hp,rfl,k⟩
theorem Za(k:K (.val (.bl (decide (i<=j)))))(ho:o=some (.int i))(hp:p=some (.int j)):Wg2 gLe o p K:=⟨_,_,_,ho,hp,rfl,k⟩
theorem Yd(k:K (.val (.bl (decide (j<i)))))(ho:o=some (.int i))(hp:p=some (.int j)):Wg2 gGt o p K:=⟨_,_,_,ho,hp,rfl,k⟩
theorem YU(k:K (.val (.bl (decide (j<=i)))))(ho:o=some (.int i))(hp:p=some (.int j)):Wg2 gGe o p K:=⟨_,_,_,ho,hp,rfl,k⟩
theorem X5(k:K (.val (.int (i+j))))(ho:o=some (.int i))(hp:p=some (.int j)):Wg2 dw o p K:=⟨_,_,_,ho,hp,rfl,k⟩
theorem YX{xs ys:List Dat}(k:K (.new (.lst (xs++ys))))(ho:o=some (.lst xs))(hp:p=some (.lst ys))(h:xs.length+ys.length<=SZ):Wg2 dw o p K:=⟨_,_,_,ho,hp,by unfold dw;dsimp only;rw[if_pos h],k⟩
theorem X3(k:K (.val (.int (i-j))))(ho:o=some (.int i))(hp:p=some (.int j)):Wg2 gQ o p K:=⟨_,_,_,ho,hp,rfl,k⟩
theorem YN(k:K (.val (.int (i*j))))(ho:o=some (.int i))(hp:p=some (.int j))(h:(-B64<i/\i<B64)\/(-B64<j/\j<B64)):Wg2 jz o p K:=⟨_,_,_,ho,hp,by unfold jz;dsimp only;rw[if_pos h],k⟩
theorem Y4(k:K (.val (.int (i / j))))(ho:o=some (.int i))(hp:p=some (.int j))(h:0<j/\j<jA):Wg2 xA o p K:=⟨_,_,_,ho,hp,by unfold xA;dsimp only;rw[if_pos h],k⟩
theorem YL(k:K (.val (.int (i % j))))(ho:o=some (.int i))(hp:p=some (.int j))(h:0<j):Wg2 lP o p K:=⟨_,_,_,ho,hp,by unfold lP;dsimp only;rw[if_pos h],k⟩
theorem YJ{i j z:Int}(k:K (.val (.int z)))(ho:o=some (.int i))(hp:p=some (.int j))(h:0<=j/\j<=1000000/\i.natAbs<1000000)(hz:i ^ j.toNat=z):Wg2 uf o p K:=⟨_,_,_,ho,hp,by unfold uf;dsimp only;rw[if_pos h,hz],k⟩
theorem XA{d e:Dat}{v:Dat}(k:K (.val v))(ho:o=some d)(hp:p=some e)(h:gIx d e=some (.val v)):Wg2 gIx o p K:=⟨_,_,_,ho,hp,h,k⟩
theorem jP(sY:α->Dat)(xs:List α)(i:Int)(h0:0<=i)(h1:i<xs.length):atI (xs.map sY) i=some (sY (xs[i.toNat]'(by lia))):=by unfold atI ixN;rw[Dk,if_pos h0,if_pos h1];show (xs.map sY)[i.toNat]?=_;rw[TJ,Tf (by lia)];rfl
theorem Yv{sY:α->Dat}{xs:List α}{i:Int}(h0:0<=i)(h1:i<xs.length)(k:K (.val (sY (xs[i.toNat]'(by lia)))))(ho:o=some (.lst (xs.map sY)))(hp:p=some (.int i)):Wg2 gIx o p K:=
 ⟨_,_,_,ho,hp,by unfold gIx;dsimp only;rw[jP sY xs i h0 h1];rfl,k⟩
theorem sX(i:Int)(xs:List Int):inD (.int i) (xs.map Dat.int)=decide (i∈xs):=by
 induction xs with
 |nil=>rfl
 |cons x xs ih=>
  have ih':(xs.map Dat.int).any (fun y=>eqD y (.int i))=decide (i∈xs):=ih;unfold inD;rw[eg,U4,ih'];show ((x == i)||_)=_;by_cases h:x=i
  ·simp[h]
  ·have h':¬i=x:=fun z=>h z.symm;simp[h,h']
theorem yf(xs:List Int):(xs.map Dat.int).all (okD 7)=true:=by rw[Ug];intro d hd;obtain⟨x,_,rfl⟩:=Td.mp hd;rfl
theorem Zq{i:Int}{xs:List Int}(k:K (.val (.bl (decide (i∈xs)))))(ho:o=some (.int i))(hp:p=some (.lst (xs.map Dat.int))):Wg2 gIn o p K:=
 ⟨_,_,_,ho,hp,by unfold gIn;dsimp only;rw[show okD 8 (.int i)=true from rfl,yf,sX];rfl,k⟩
theorem Zr{i:Int}{xs:List Int}(k:K (.val (.bl (!decide (i∈xs)))))(ho:o=some (.int i))(hp:p=some (.lst (xs.map Dat.int))):Wg2 d_ o p K:=
 ⟨_,_,_,ho,hp,by unfold d_;dsimp only;rw[show okD 8 (.int i)=true from rfl,yf,sX];rfl,k⟩
theorem Yw{i:Int}{xs:List Int}(k:K (.val (.bl (decide (i∈xs)))))(ho:o=some (.int i))(hp:p=some (.tup (xs.map Dat.int))):Wg2 gIn o p K:=
 ⟨_,_,_,ho,hp,by unfold gIn;dsimp only;rw[show okD 8 (.int i)=true from rfl,yf,sX];rfl,k⟩
theorem YI{i:Int}(k:K (.val (.bl (bH ks vs i).isSome)))(ho:o=some (.int i))(hp:p=some (.dct ks vs)):Wg2 Bb o p K:=⟨_,_,_,ho,hp,rfl,k⟩
theorem Y_{i:Int}(k:K (.val (.bl (!(bH ks vs i).isSome))))(ho:o=some (.int i))(hp:p=some (.dct ks vs)):Wg2 uD o p K:=⟨_,_,_,ho,hp,rfl,k⟩
theorem YT{i:Int}(h:bH ks vs i=some d)(k:K (.val d))(ho:o=some (.dct ks vs))(hp:p=some (.int i)):Wg2 gDx o p K:=⟨_,_,_,ho,hp,by unfold gDx;dsimp only;rw[h];rfl,k⟩
theorem YV{o:Option (List Dat)}(k:K (.val (.int xs.length)))(ho:o=some [.lst xs]):WB cG o K:=⟨_,_,ho,rfl,k⟩
theorem Zm{o:Option (List Dat)}(k:K (.val (.int xs.length)))(ho:o=some [.tup xs]):WB cG o K:=⟨_,_,ho,rfl,k⟩
theorem Yy{o:Option (List Dat)}(k:K (.val (.int (if j<i then j else i))))(ho:o=some [.int i,.int j]):WB mP o K:=⟨_,_,ho,rfl,k⟩
theorem Yz{o:Option (List Dat)}(k:K (.val (.int (if j>i then j else i))))(ho:o=some [.int i,.int j]):WB mQ o K:=⟨_,_,ho,rfl,k⟩
theorem YK{o:Option (List Dat)}(k:K (.new (.lst xs)))(ho:o=some [.lst xs]):WB qC o K:=⟨_,_,ho,rfl,k⟩
theorem Yp{o:Option Dat}(k:K v)(ho:o=some d)(h:g d=some v):Wg1 g o K:=⟨_,_,ho,h,k⟩
theorem jQ{Q:List Dat->Prop}(q:Q xs):∃ds,Bt (.lst xs)=some ds/\Q ds:=⟨_,rfl,q⟩
theorem ndT{p:Prop}[Decidable p](h:(!decide p)=true):¬p:=by intro z;rw[decide_eq_true z]at h;cases h
theorem ndF{p:Prop}[Decidable p](h:(!decide p)=false):p:=VO fun z=>by rw[decide_eq_false z]at h;cases h
theorem J4(sY:α->Dat)(xs:List α)(h:∀x,okD 7 (sY x)=true):okD 8 (.lst (xs.map sY))=true:=by unfold okD;rw[Ug];intro d hd;obtain⟨x,_,rfl⟩:=Td.mp hd;exact h x
theorem Yg{sY:α->Dat}{xs:List α}{o:Option (List Dat)}(k:K (.val (.int xs.length)))(ho:o=some [.lst (xs.map sY)]):WB cG o K:=⟨_,_,ho,by unfold cG;dsimp only;rw[Dk],k⟩
theorem Zn{s:FS}{N N':Env->Prop}(h:Ws s ρ N' R B C)(k:∀ρ',N' ρ'->N ρ'):Ws s ρ N R B C:=by
 obtain⟨o,h1,h2⟩:=h;cases o with
 |nx ρ1=>exact⟨.nx ρ1,h1,k _ h2⟩
 |ret r ρ1=>exact⟨.ret r ρ1,h1,h2⟩
 |bk ρ1=>exact⟨.bk ρ1,h1,h2⟩
 |ct ρ1=>exact⟨.ct ρ1,h1,h2⟩
theorem yg{i:Nat}{W:Prop}(h:ρ[i]?=some (.ow d))(w:W):(∃d0,ρ[i]?=some (.ow d0))/\W:=⟨⟨d,h⟩,w⟩
theorem Zh(q:Q (.new (.dct [] [])) ρ):We eDn ρ Q:=⟨_,_,rfl,q⟩
theorem Zy{a b:FE}(h:We a ρ fun v ρ1=>cj v fun i=>We b ρ1 fun x ρ2=>Wk ρ2 x fun d ρ3=>Q (.new (.dct [i] [d])) ρ3):We (eD1 a b) ρ Q:=by obtain⟨v,ρ1,h1,i,rfl,x,ρ2,h2,d,ρ3,h3,q⟩:=h;exact⟨_,_,by unfold eD1;rw[h1];dsimp only;rw[h2];dsimp only;rw[h3],q⟩
theorem bQ{ρ ρ1 ρ2:Env}{W:Env->Prop}(h:bd d ρ=some ρ1)(hn:ρ1=ρ2)(w:W ρ2):∃ρ1,bd d ρ=some ρ1/\W ρ1:=⟨ρ1,h,hn▸w⟩
theorem D8(sY:α->Dat)(p:α->Bool)(v:α->Dat)(bd:FB)(t:FT)(el:FE)(e0:Env)(env:α->Env)(h0:∀x,bd (sY x) e0=some (env x))(h1:∀x y,bd (sY x) (env y)=some (env x)):∀(xs:List α) (tG:List Dat) (e:Env),(e=e0\/∃y,e=env y) ->
  (∀x∈xs,t (env x)=some (p x,env x))->(∀x∈xs,p x=true->We el (env x) fun w ρ'=>Wk ρ' w fun d ρ''=>d=v x/\ρ''=env x) ->
  ∃e',(e'=e0\/∃y,e'=env y)/\cF bd t el (xs.map sY) e tG=some (tG++(xs.filter p).map v,e')
 |[],tG,e,he,_,_=>⟨e,he,by simp[cF]⟩
 |x::xs,tG,e,he,ht,hel=>by
  have hb:bd (sY x) e=some (env x):=by
   rcases he with rfl | ⟨y,rfl⟩
   ·exact h0 x
   ·exact h1 x y
  rw[eg,cF,hb];dsimp only;rw[ht x gV];have ht':=fun y hy=>ht y (gc _ hy);have he':=fun y hy=>hel y (gc _ hy);by_cases h:p x=true
  ·obtain⟨w,ρ',g1,d,ρ'',g2,rfl,rfl⟩:=hel x gV h;rw[h];dsimp only;rw[g1];dsimp only;rw[g2];obtain⟨e',q,z⟩:=D8 sY p v bd t el e0 env h0 h1 xs (tG++[v x]) _ (.inr ⟨x,rfl⟩) ht' he';exact⟨e',q,by dsimp only;rw[z,Us h];simp⟩
  ·rw[Bool.not_eq_true]at h;rw[h];obtain⟨e',q,z⟩:=D8 sY p v bd t el e0 env h0 h1 xs tG _ (.inr ⟨x,rfl⟩) ht' he';exact⟨e',q,by dsimp only;rw[z,Ur (by rw[h];decide)]⟩
theorem Y7{α β:Type}(sY:α->Dat)(xs:List α)(p:α->Bool)(f:α->β)(cL:β->Dat)(env:α->Env){it:FI}{own:Nat}{bd:FB}{t:FT}{el:FE}{ρ ρ1:Env}{Q:Val->Env->Prop}
  (q:Q (.new (.lst (((xs.filter p).map f).map cL))) ρ1) (ER:it ρ=some (xs.map sY,ρ1)) (h0:∀x,bd (sY x) (ρ1++S5 own .un)=some (env x)) (h1:∀x y,bd (sY x) (env y)=some (env x)) (h2:∀x,(env x).take ρ1.length=ρ1) (hl:xs.length<=SZ)
  (ht:∀x∈xs,Wt t (env x) fun c ρ'=>c=p x/\ρ'=env x)
  (he:∀x∈xs,p x=true->We el (env x) fun w ρ'=>Wk ρ' w fun d ρ''=>d=cL (f x)/\ρ''=env x):We (bU it own bd t el) ρ Q:=by
 obtain⟨e',q',e⟩:=D8 sY p (fun x=>cL (f x)) bd t el _ env h0 h1 xs [] _ (.inl rfl) (fun x hx=>YG (ht x hx)) he;refine⟨_,_,?_,q⟩;unfold bU;rw[ER];dsimp only;rw[if_pos (by rw[Dk];exact hl),e];dsimp only;rw[VN,Uj];have:e'.take ρ1.length=ρ1:=by
  rcases q' with rfl | ⟨y,rfl⟩
  ·exact VH
  ·exact h2 y
 rw[this];rfl
theorem Zi{α β:Type}(sY:α->Dat)(xs:List α)(p:α->Bool)(f:α->β)(cL:β->Dat)(d1 d2 d3:α->Dat)(henc:∀x,sY x=.tup [d1 x,d2 x,d3 x]){i k:Nat}{t:FT}{el:FE}{ρ:Env}{Q:Val->Env->Prop}{d:Dat}
  (q:Q (.new (.lst (((xs.filter p).map f).map cL))) ρ) (hi:ρ[i]?=some (.sh d)) (hd:Bt d=some (xs.map sY)) (hk:ρ.length=k) (hk0:k≠0) (hl:xs.length<=SZ)
  (ht:∀x∈xs,Wt t (ρ++[.sh (d1 x),.sh (d2 x),.sh (d3 x)]) fun c ρ'=>c=p x/\ρ'=ρ++[.sh (d1 x),.sh (d2 x),.sh (d3 x)])
  (he:∀x∈xs,p x=true->We el (ρ++[.sh (d1 x),.sh (d2 x),.sh (d3 x)]) fun w ρ'=>Wk ρ' w fun d ρ''=>d=cL (f x)/\ρ''=ρ++[.sh (d1 x),.sh (d2 x),.sh (d3 x)]):We (aM i 3 (bT [k,k+1,k+2]) t el) ρ Q:=by
 have ER:iS (eV i) ρ=some (xs.map sY,ρ):=by
  unfold iS eV;rw[hi];cases d with
  |lst ys=>cases hd;rfl
  |tup ys=>cases hd;rfl
  |_=>cases hd
 have b:∀(x:α) (c1 c2 c3:Cell),bT [k,k+1,k+2] (sY x) (ρ++[c1,c2,c3])=some (ρ++[.sh (d1 x),.sh (d2 x),.sh (d3 x)]):=fun x c1 c2 c3=>by rw[henc];show sets [k,k+1,k+2] [d1 x,d2 x,d3 x] _=_;rw[sets,if_neg hk0,sets,if_neg (by lia),sets,if_neg (by lia),sets];rw[Uh _ _ (by lia),Uh _ _ (by lia),Uh _ _ (by lia)];subst hk;rw[WE,show ρ.length+1-ρ.length=1 by lia,show ρ.length+2-ρ.length=2 by lia];rfl
 obtain⟨a,ρ',g1,g2⟩:=Y7 sY xs p f cL (fun x=>(ρ++[Cell.sh (d1 x),Cell.sh (d2 x),Cell.sh (d3 x)]:Env)) (own:=3) (bd:=bT [k,k+1,k+2]) (Q:=Q) q ER (fun x=>b x .un .un .un) (fun x y=>b x (.sh (d1 y)) (.sh (d2 y)) (.sh (d3 y))) (fun x=>VH) hl ht he;refine⟨a,ρ',?_,g2⟩;unfold aM;rw[hi];exact g1
theorem YY{o:Option (List Dat)}(k:K (.val (.tup xs)))(ho:o=some [.lst xs]):WB j9 o K:=⟨_,_,ho,rfl,k⟩
noncomputable def ltI(a b:Int):Bool:=decide (a<b)
theorem nJ(ns:List Int):fN (ns.map Dat.int)=some ns:=by
 induction ns with
 |nil=>rfl
 |cons m ms ih=>rw[eg,fN,ih];rfl
theorem qi(ns:List Int):(bg ltI ns).Pairwise (fun a b=>ltI b a=false):=bP (fun a b c h1 h2=>by simp[ltI]at *;lia) (fun a b h=>by simp[ltI]at *;lia) ns
theorem Zo(k:K (.val (.int (i / 2 ^ j.toNat))))(ho:o=some (.int i))(hp:p=some (.int j))(h:0<=j):Wg2 A1 o p K:=⟨_,_,_,ho,hp,by unfold A1;dsimp only;rw[if_pos h],k⟩
theorem Zu{i:Int}(k:K (.val (.int (i % 2))))(ho:o=some (.int i))(hp:p=some (.int 1)):Wg2 CD o p K:=⟨_,_,_,ho,hp,rfl,k⟩
theorem YR{t:FT}{body:FS}{N:Env->Prop}{R:RV->Env->Prop}{B C:Env->Prop}(I:Nat->Env->Prop)
  (hs:∀k ρ,I k ρ->Wt t ρ fun c ρ1=>Wif c (Ws body ρ1 (fun ρ2=>∃k',k'<k/\I k' ρ2) R N (fun ρ2=>∃k',k'<k/\I k' ρ2)) (N ρ1)):∀(n k:Nat) (ρ:Env),k<n->I k ρ->Ws (whD t body n) ρ N R B C
 |0,k,_,h,_=>absurd h (Nat.not_lt_zero k)
 |n+1,k,ρ,h,i=>by
  obtain⟨c,ρ1,h1,h2,h3⟩:=hs k ρ i;cases c with
  |false=>exact⟨.nx _,by rw[whD,h1],h3 rfl⟩
  |true=>
   obtain⟨o,h4,h5⟩:=h2 rfl;cases o with
   |nx ρ2=>obtain⟨k',hk,i'⟩:=h5;obtain⟨o,h6,h7⟩:=YR (N:=N) (R:=R) (B:=B) (C:=C) I hs n k' ρ2 (by lia) i';exact⟨o,by rw[whD,h1];dsimp only;rw[h4];exact h6,h7⟩
   |ct ρ2=>obtain⟨k',hk,i'⟩:=h5;obtain⟨o,h6,h7⟩:=YR (N:=N) (R:=R) (B:=B) (C:=C) I hs n k' ρ2 (by lia) i';exact⟨o,by rw[whD,h1];dsimp only;rw[h4];exact h6,h7⟩
   |bk ρ2=>exact⟨.nx _,by rw[whD,h1];dsimp only;rw[h4],h5⟩
   |ret r ρ2=>exact⟨.ret _ _,by rw[whD,h1];dsimp only;rw[h4],h5⟩
theorem Bv(p:α->Bool)(xs:List α):bools (xs.map fun x=>Dat.bl (p x))=some (xs.map p):=by
 induction xs with
 |nil=>rfl
 |cons x xs ih=>rw[eg,bools,ih];rfl
theorem YS(p:α->Bool){xs:List α}{o:Option (List Dat)}(k:K (.val (.bl (xs.all p))))(ho:o=some [.lst (xs.map fun x=>Dat.bl (p x))]):WB ug o K:=⟨_,_,ho,by
 unfold ug;dsimp only;rw[Bv];have:(xs.map p).all id=xs.all p:=by rw[List.all_map];rfl
 dsimp only;rw[this],k⟩
theorem ZA{a b:FE}(h:We a ρ fun x ρ1=>(∃ks vs,pk ρ1 x=some (.dct ks vs))/\We b ρ1 fun y ρ2=>∃ks vs i,pk ρ2 x=some (.dct ks vs)/\pk ρ2 y=some (.int i)/\Q (.val ((bH ks vs i).getD .non)) ρ2):We (k7 a b) ρ Q:=by obtain⟨x,ρ1,h1,⟨ks,vs,h2⟩,y,ρ2,h3,ks',vs',i,h4,h5,q⟩:=h;exact⟨_,_,by unfold k7;rw[h1];dsimp only;rw[h2];dsimp only;rw[h3];dsimp only;rw[h4];dsimp only;rw[h5],q⟩
theorem YZ(k:K (.val (.bl (Dm.isN d))))(ho:o=some d)(hp:p=some .non):Wg2 xR o p K:=⟨_,_,_,ho,hp,by cases d<;>rfl,k⟩
theorem Zz{j:Int}{o:Option (List Dat)}(k:K (.new (.lst (ups 0 j.toNat))))(ho:o=some [.int j])(h:j<=1000000/\-1000000<=j):WB qI o K:=⟨_,_,ho,by unfold qI;dsimp only;rw[if_pos h],k⟩
theorem X7(J:Env->Prop)(h1:Ws s ρ J R B C)(h2:∀ρ',J ρ'->Ws u ρ' N R B C):Ws (aF s u) ρ N R B C:=V_ (Zn h1 h2)
def WrM(o:Option (RV×Dat))(P:RV->Dat->Prop):Prop:=∃z d,o=some (z,d)/\P z d
theorem YF{r:List Dat}{P:RV->Dat->Prop}(b:Ws body ρ (fun ρ'=>∃d',ρ'[0]?=some (.ow d')/\P (.val .non) d') (fun z ρ'=>∃d',ρ'[0]?=some (.ow d')/\P z d') (fun _=>False) (fun _=>False))(hρ:Cell.ow d::(r.map Cell.sh++S5 m .un)=ρ)(h:(d::r).length=n):WrM (fnM n m body (d::r)) P:=by
 obtain⟨o,h1,h2⟩:=b;cases o with
 |nx ρ1=>obtain⟨d',h3,h4⟩:=h2;exact⟨_,_,by unfold fnM;rw[if_pos h];dsimp only;rw[hρ,h1];dsimp only;rw[h3],h4⟩
 |ret z ρ1=>obtain⟨d',h3,h4⟩:=h2;exact⟨_,_,by unfold fnM;rw[if_pos h];dsimp only;rw[hρ,h1];dsimp only;rw[h3],h4⟩
 |bk ρ1=>exact h2.elim
 |ct ρ1=>exact h2.elim
def WFm(f:List Dat->Option (RV×Dat))(j:Nat)(ρ1:Env)(xs:List Val)(Q:Val->Env->Prop):Prop:=
 ∃d1 ds ρ2 d v d',ρ1[j]?=some (.ow d1)/\tks ρ1 xs=some (ds,ρ2)/\ρ2[j]?=some (.ow d)/\f (d::ds)=some (v,d')/\(if (flat v.dat&&xO d')=true then Q v.bG (ρ1.set j (.ow d')) else Q v.bG (ρ2.set j (.ow d')))
theorem YQ{f:List Dat->Option (RV×Dat)}{j:Nat}{d0:Dat}(h:Was as ρ fun xs ρ1=>WFm f j ρ1 xs Q)(h0:ρ[j]?=some (.ow d0)):We (eFm f j as) ρ Q:=by
 obtain⟨xs,ρ1,h1,d1,ds,ρ2,d,v,d',h2,h3,h4,h5,q⟩:=h;by_cases c:(flat v.dat&&xO d')=true
 ·rw[if_pos c]at q;exact⟨_,_,by unfold eFm;rw[h0];dsimp only;rw[h1];dsimp only;rw[h2];dsimp only;rw[h3];dsimp only;rw[h4];dsimp only;rw[h5];dsimp only;rw[if_pos c],q⟩
 ·rw[if_neg c]at q;exact⟨_,_,by unfold eFm;rw[h0];dsimp only;rw[h1];dsimp only;rw[h2];dsimp only;rw[h3];dsimp only;rw[h4];dsimp only;rw[h5];dsimp only;rw[if_neg c],q⟩
theorem YA{f:List Dat->Option (RV×Dat)}{j:Nat}{ρ1 ρ3:Env}{xs:List Val}{d d':Dat}(h5:f (d::ds)=some (v,d'))(q:Q v.bG ρ3)(h2:ρ1[j]?=some (.ow d))(h3:tks ρ1 xs=some (ds,ρ1))(hn:ρ1.set j (.ow d')=ρ3):WFm f j ρ1 xs Q:=
 ⟨_,_,_,_,_,_,h2,h3,h2,h5,by rw[hn];split<;>exact q⟩
theorem Y5(h:Was as ρ fun xs ρ1=>∃ds ρ2 v,xV ρ1 xs=some (ds,ρ2)/\f ds=some v/\bJ v.dat=true/\Q v.bG ρ2):We (eFd f as) ρ Q:=by obtain⟨xs,ρ1,h1,ds,ρ2,v,h2,h3,h4,q⟩:=h;exact⟨_,_,by unfold eFd;rw[h1];dsimp only;rw[h2];dsimp only;rw[h3];dsimp only;rw[if_pos h4],q⟩
theorem kJ:∀(xs:List Dat),(∀x∈xs,bJ x=true)->f_ xs=true
 |[],_=>by unfold f_;rfl
 |x::xs,h=>by unfold f_;rw[h x gV,kJ xs fun y hy=>h y (gc _ hy)];rfl
theorem gI(sY:α->Dat)(xs:List α)(h:∀x,bJ (sY x)=true):bJ (.lst (xs.map sY))=true:=by unfold bJ;exact kJ _ fun d hd=>by obtain⟨x,_,rfl⟩:=Td.mp hd;exact h x
theorem rq(i:Int):bJ (.int i)=true:=by unfold bJ;rfl
theorem yh(xs:List Int):bJ (.lst (xs.map Dat.int))=true:=gI _ _ rq
theorem Zp{o:Option (List Dat)}(k:K (.new (.dct ks vs)))(ho:o=some [.dct ks vs]):WB uH o K:=⟨_,_,ho,rfl,k⟩
theorem ZC{o:Option (List Dat)}(k:K (.new (.lst ((bg ltI ks).map Dat.int))))(ho:o=some [.dct ks vs])(h:ks.length<=63):WB kB o K:=⟨_,_,ho,by unfold kB;dsimp only;rw[if_pos h];rfl,k⟩
theorem Zj{i:Nat}{ρ ρ2:Env}(hl:bH ks vs k=some d)(q:Q (.val d) ρ2)(h:ρ[i]?=some (.ow (.dct ks vs)))(he:e ρ=some (.val (.int k),ρ))(hs:ρ.set i (.ow (.dct (fC ks vs k) (fD ks vs k)))=ρ2):We (nu i e) ρ Q:=⟨_,_,by unfold nu;rw[h];dsimp only;rw[he];dsimp only;rw[h];dsimp only;rw[hl];dsimp only;rw[hs],q⟩
theorem Yq{ρ ρ1:Env}(h:Wi it ρ fun x y=>x=ds/\y=ρ1):it ρ=some (ds,ρ1):=by obtain⟨_,_,h1,rfl,rfl⟩:=h;exact h1
theorem Zg{a i:Nat}(h:ρ[i]?=some (.sh (.fn a)))(k:We (eF f as) ρ Q):We (eFp a i f as) ρ Q:=by obtain⟨v,ρ',e,q⟩:=k;exact⟨v,ρ',by unfold eFp;rw[h];dsimp only;rw[if_pos rfl];exact e,q⟩
end
end Dm
namespace Fl
section
variable{r:List Tie}{S:Int->Bool}{R:Int->Step->Prop}{w:List Step}{p q:Int}{a b:Int}{t:Tie}{k:Nat}
structure Tie where
 m:Int
 a:Int
 b:Int
deriving Inhabited
noncomputable def one(b:Bool):Int:=if b then 1 else 0
def Ends(t:Tie)(p q:Int):Prop:=t.a≠t.b/\((t.a=p/\t.b=q)\/(t.b=p/\t.a=q))
theorem Ends.symm(h:Ends t p q):Ends t q p:=⟨h.1,h.2.symm.imp (fun x=>⟨x.2,x.1⟩) (fun x=>⟨x.2,x.1⟩)⟩
noncomputable abbrev Hd:=Int->Option Int
noncomputable def val(o:Option Int)(t:Tie)(S:Int->Bool):Int:=
 if t.a=t.b then 0 else if o=some t.b then one (S t.a)-one (S t.b) else if o=some t.a then one (S t.b)-one (S t.a) else 0
noncomputable def cU(r:List Tie)(H:Hd)(S:Int->Bool):Int:=match r with
 |[]=>0
 |t::r=>val (H t.m) t S+cU r H S
noncomputable def put(H:Hd)(m:Int)(o:Option Int):Hd:=fun x=>if x=m then o else H x
theorem Bw{H H':Hd}(h:∀t∈r,H t.m=H' t.m):cU r H S=cU r H' S:=by
 induction r with
 |nil=>rfl
 |cons t r ih=>rw[cU,cU,h t gV,ih fun u hu=>h u (gc _ hu)]
theorem u9(nd:(r.map (·.m)).Nodup)(ht:t∈r)(H:Hd)(o:Option Int)(S:Int->Bool):cU r (put H t.m o) S=cU r H S-val (H t.m) t S+val o t S:=by
 induction r with
 |nil=>cases ht
 |cons u r ih=>
  rw[eg,TH]at nd;rcases S4.mp ht with rfl | ht'
  ·rw[cU,cU];have e1:put H t.m o t.m=o:=by unfold put;rw[if_pos rfl]
   rw[e1,Bw (H:=put H t.m o) (H':=H) fun v hv=>?_]
   ·lia
   ·unfold put;rw[if_neg fun e=>?_];exact nd.1 (Td.mpr ⟨v,hv,e⟩)
  ·have J5:u.m≠t.m:=fun e=>nd.1 (Td.mpr ⟨t,ht',e.symm⟩);rw[cU,cU,ih nd.2 ht'];have e1:put H t.m o u.m=H u.m:=by unfold put;rw[if_neg J5]
   rw[e1]
   lia
theorem gJ(h:Ends t p q)(S:Int->Bool):val (some q) t S=one (S p)-one (S q):=by
 obtain⟨h1,h2⟩:=h;unfold val;rw[if_neg h1];rcases h2 with⟨rfl,rfl⟩ | ⟨rfl,rfl⟩
 ·rw[if_pos rfl]
 ·rw[if_neg (by intro e;injection e with e;exact h1 e),if_pos rfl]
theorem gn(t:Tie)(S:Int->Bool):val none t S=0:=by
 unfold val;split
 ·rfl
 ·simp
def Ok(r:List Tie)(H:Hd):Prop:=∀t∈r,∀x,H t.m=some x->x=t.a\/x=t.b
noncomputable def gp(H:Hd)(m q:Int):Hd:=put H m (if (H m).isSome then none else some q)
theorem yi(nd:(r.map (·.m)).Nodup){H:Hd}(ok:Ok r H)(ht:t∈r)(he:Ends t p q)(hf:H t.m≠some q)(S:Int->Bool) :
  cU r (gp H t.m q) S=cU r H S+one (S p)-one (S q):=by
 unfold gp;rw[u9 nd ht];cases e:H t.m with
 |none=>
  simp only[Option.isSome_none,Tc,if_false];rw[gn,gJ he]
  lia
 |some x=>
  have hx:=ok t ht x e;have:x=p:=by
   rw[e]at hf;have hxq:x≠q:=fun z=>hf (by rw[z]);obtain⟨_,h2⟩:=he
   lia
  subst this;simp only[Option.isSome_some,if_true];rw[gn,gJ he.symm]
  lia
theorem uniq(nd:(r.map (·.m)).Nodup){u t:Tie}(hu:u∈r)(ht:t∈r)(e:u.m=t.m):u=t:=by
 induction r with
 |nil=>cases hu
 |cons v r ih=>
  rw[eg,TH]at nd;rcases S4.mp hu with rfl | h1
  ·rcases S4.mp ht with rfl | h2
   ·rfl
   ·exact absurd (Td.mpr ⟨t,h2,e.symm⟩) nd.1
  ·rcases S4.mp ht with rfl | h2
   ·exact absurd (Td.mpr ⟨u,h1,e⟩) nd.1
   ·exact ih nd.2 h1 h2
theorem D_(nd:(r.map (·.m)).Nodup){H:Hd}(ok:Ok r H)(ht:t∈r)(he:Ends t p q):Ok r (gp H t.m q):=by
 intro u hu x hx;unfold gp put at hx;by_cases e:u.m=t.m
 ·rw[if_pos e]at hx;have:u=t:=uniq nd hu ht e;subst this;split at hx
  ·cases hx
  ·injection hx with hx
   obtain⟨_,h2⟩:=he
   lia
 ·rw[if_neg e]at hx;exact ok u hu x hx
noncomputable abbrev Step:=Int×Int
def Way(R:Int->Step->Prop):Int->List Step->Int->Prop
 |x,[],y=>x=y
 |x,s::w,y=>R x s/\Way R s.2 w y
theorem Way.snoc:∀{w:List Step} {x y:Int} {s:Step},Way R x w y->R y s->Way R x (w++[s]) s.2
 |[],_,_,_,h,k=>by cases h;exact⟨k,rfl⟩
 |_::_,_,_,_,h,k=>⟨h.1,Way.snoc h.2 k⟩
theorem Way.mono{R R':Int->Step->Prop}(h:∀p s,R p s->R' p s):∀{w:List Step} {x y:Int},Way R x w y->Way R' x w y
 |[],_,_,k=>k
 |_::_,_,_,k=>⟨h _ _ k.1,Way.mono h k.2⟩
def gq(r:List Tie)(p:Int)(s:Step):Prop:=∃t∈r,t.m=s.1/\Ends t p s.2
def nK(r:List Tie)(H:Hd)(p:Int)(s:Step):Prop:=gq r p s/\H s.1≠some s.2
def Led(r:List Tie)(H:Hd)(p:Int)(s:Step):Prop:=gq r p s/\H s.1=some s.2
theorem kK(nd:(r.map (·.m)).Nodup)(hR:∀p s,R p s->gq r p s){x y:Int}{s:Step}(h:Way R x (s::w) y)(hn:(x::(s::w).map (·.2)).Nodup):∀u∈w,u.1≠s.1:=by
 obtain⟨h1,h2⟩:=h;obtain⟨t,ht,hm,he⟩:=hR _ _ h1;have main:∀(w:List Step) (z:Int),Way R z w y->(∀u∈w,u.2≠x/\u.2≠s.2)->∀u∈w,u.1≠s.1:=fun w=>by
  induction w with
  |nil=>intro z _ _ u hu;cases hu
  |cons v w ih=>
   intro z hw hd u hu;rcases S4.mp hu with rfl | hu
   ·intro e;obtain⟨t',ht',hm',he'⟩:=hR _ _ hw.1;have:=uniq nd ht' ht (by rw[hm',e,hm]);subst this;obtain⟨d1,d2⟩:=hd u gV;obtain⟨_,he⟩:=he;obtain⟨_,he'⟩:=he'
    lia
   ·exact ih v.2 hw.2 (fun u hu=>hd u (gc _ hu)) u hu
 rw[eg,TH,TH]at hn;refine main w s.2 h2 fun u hu=>⟨fun e=>hn.1 ?_,fun e=>hn.2.1 ?_⟩
 ·exact gc _ (Td.mpr ⟨u,hu,e⟩)
 ·exact Td.mpr ⟨u,hu,e⟩
theorem lq(nd:(r.map (·.m)).Nodup)(hR:∀p s,R p s->gq r p s){y:Int}:∀{w:List Step} {x:Int},Way R x w y->(x::w.map (·.2)).Nodup->(w.map (·.1)).Nodup
 |[],_,_,_=>by simp
 |s::w,x,h,hn=>by rw[eg,TH];refine⟨fun e=>?_,lq nd hR h.2 (by rw[eg,TH]at hn;exact hn.2)⟩;obtain⟨u,hu,e⟩:=Td.mp e;exact kK nd hR h hn u hu e
noncomputable def lu(H:Hd):List Step->Hd
 |[]=>H
 |s::w=>lu (gp H s.1 s.2) w
theorem u_{H:Hd}{m q x:Int}(h:x≠m):gp H m q x=H x:=by unfold gp put;rw[if_neg h]
theorem g7(nd:(r.map (·.m)).Nodup)(S:Int->Bool):∀{w:List Step} {x y:Int} {H:Hd},Ok r H->Way (nK r H) x w y->(x::w.map (·.2)).Nodup ->
  Ok r (lu H w)/\cU r (lu H w) S=cU r H S+one (S x)-one (S y)
 |[],x,y,H,ok,h,_=>by cases h;exact⟨ok,by rw[lu];lia⟩
 |s::w,x,y,H,ok,h,hn=>by
  have hfr:=kK nd (fun p s h=>h.1) h hn;obtain⟨⟨⟨t,ht,hm,he⟩,hf⟩,h2⟩:=h;have ok1:=D_ nd ok ht he;have f1:=yi nd ok ht he (by rw[hm];exact hf) S;rw[hm]at ok1 f1;have h3:Way (nK r (gp H s.1 s.2)) s.2 w y:=by
   have main:∀(w:List Step) (z:Int),(∀u∈w,u.1≠s.1)->Way (nK r H) z w y->Way (nK r (gp H s.1 s.2)) z w y:=fun w=>by
    induction w with
    |nil=>intro _ _ h;exact h
    |cons u w ih=>intro z hu hw;exact⟨⟨hw.1.1,by rw[u_ (hu u gV)];exact hw.1.2⟩,ih u.2 (fun v hv=>hu v (gc _ hv)) hw.2⟩
   exact main w s.2 hfr h2
  obtain⟨k1,k2⟩:=g7 nd S ok1 h3 (by rw[eg,TH]at hn;exact hn.2);rw[lu];exact⟨k1,by rw[k2,f1];lia⟩
noncomputable def fQ(H:Hd):List Step->Hd
 |[]=>H
 |s::w=>fQ (put H s.1 none) w
theorem gu:∀{w:List Step} {H:Hd} {x:Int},(∀u∈w,u.1≠x)->fQ H w x=H x
 |[],_,_,_=>rfl
 |s::w,H,x,h=>by rw[fQ,gu fun u hu=>h u (gc _ hu)];unfold put;rw[if_neg fun e=>h s gV e.symm]
theorem g8:∀{w:List Step} {H:Hd} {x:Int},x∈w.map (·.1)->fQ H w x=none
 |[],_,_,h=>by cases h
 |s::w,H,x,h=>by
  rw[fQ];by_cases e:x∈w.map (·.1)
  ·exact g8 e
  ·rw[gu fun u hu z=>e (Td.mpr ⟨u,hu,z⟩)];rw[eg]at h;rcases S4.mp h with rfl | h
   ·unfold put;rw[if_pos rfl]
   ·exact absurd h e
theorem g9(nd:(r.map (·.m)).Nodup)(S:Int->Bool):∀{w:List Step} {x y:Int} {H:Hd},Ok r H->Way (Led r H) x w y->(x::w.map (·.2)).Nodup ->
  Ok r (fQ H w)/\cU r (fQ H w) S=cU r H S-one (S x)+one (S y)
 |[],x,y,H,ok,h,_=>by cases h;exact⟨ok,by rw[fQ];lia⟩
 |s::w,x,y,H,ok,h,hn=>by
  have hfr:=kK nd (fun p s h=>h.1) h hn;obtain⟨⟨⟨t,ht,hm,he⟩,hf⟩,h2⟩:=h;have ok1:Ok r (put H s.1 none):=fun u hu z hz=>by
   unfold put at hz;split at hz
   ·cases hz
   ·exact ok u hu z hz
  have f1:=u9 nd ht H none S;rw[gn,hm,hf,gJ he]at f1;have h3:Way (Led r (put H s.1 none)) s.2 w y:=by
   have main:∀(w:List Step) (z:Int),(∀u∈w,u.1≠s.1)->Way (Led r H) z w y->Way (Led r (put H s.1 none)) z w y:=fun w=>by
    induction w with
    |nil=>intro _ _ h;exact h
    |cons u w ih=>intro z hu hw;exact⟨⟨hw.1.1,by unfold put;rw[if_neg (hu u gV)];exact hw.1.2⟩,ih u.2 (fun v hv=>hu v (gc _ hv)) hw.2⟩
   exact main w s.2 hfr h2
  obtain⟨k1,k2⟩:=g9 nd S ok1 h3 (by rw[eg,TH]at hn;exact hn.2);rw[fQ];exact⟨k1,by rw[k2,f1];lia⟩
noncomputable def over(S:Int->Bool)(t:Tie):Bool:=S t.a != S t.b
theorem Ea{H:Hd}(hc:∀p s,S p=true->nK r H p s->S s.2=true):cU r H S=((r.filter (over S)).length:Nat):=by
 have main:∀(q:List Tie),(∀t∈q,t∈r)->cU q H S=((q.filter (over S)).length:Nat):=fun q=>by
  induction q with
  |nil=>intro _;rfl
  |cons t q ih=>
   intro hq;rw[cU,ih fun u hu=>hq u (gc _ hu)];by_cases ho:over S t=true
   ·rw[Us ho];have J5:t.a≠t.b:=fun e=>by unfold over at ho;rw[e]at ho;simp at ho
    have hv:val (H t.m) t S=1:=by
     unfold over at ho;cases ha:S t.a with
     |true=>
      have hb:S t.b=false:=by rw[ha]at ho;simpa using ho
      have he:Ends t t.a t.b:=⟨J5,.inl ⟨rfl,rfl⟩⟩
      have:H t.m=some t.b:=VO fun e=>by have:=hc t.a (t.m,t.b) ha ⟨⟨t,hq t gV,rfl,he⟩,e⟩;rw[hb]at this;cases this
      rw[this,gJ he,ha,hb];rfl
     |false=>
      have hb:S t.b=true:=by rw[ha]at ho;simpa using ho
      have he:Ends t t.b t.a:=⟨J5,.inr ⟨rfl,rfl⟩⟩
      have:H t.m=some t.a:=VO fun e=>by have:=hc t.b (t.m,t.a) hb ⟨⟨t,hq t gV,rfl,he⟩,e⟩;rw[ha]at this;cases this
      rw[this,gJ he,ha,hb];rfl
    rw[hv,TV]
    lia
   ·rw[Ur ho];have hv:val (H t.m) t S=0:=by
     unfold over at ho;have:S t.a=S t.b:=by simpa using ho
     unfold val;rw[this];split
     ·rfl
     ·split
      ·lia
      ·split<;>lia
    rw[hv]
    lia
 exact main r fun _ h=>h
theorem Eb{H:Hd}(ok:Ok r H)(hc:∀p s,S p=true->Led r H p s->S s.2=true):cU r H S<=0:=by
 have main:∀(q:List Tie),(∀t∈q,t∈r)->cU q H S<=0:=fun q=>by
  induction q with
  |nil=>intro _;exact Wd _
  |cons t q ih=>
   intro hq;rw[cU];have h1:=ih fun u hu=>hq u (gc _ hu);have hv:val (H t.m) t S<=0:=by
    by_cases J5:t.a=t.b
    ·unfold val;rw[if_pos J5];exact Wd _
    cases e:H t.m with
    |none=>rw[gn];exact Wd _
    |some x=>
     have key:∀p,Ends t p x->val (some x) t S<=0:=fun p he=>by
      rw[gJ he];cases hp:S p with
      |false=>cases S x<;>decide
      |true=>have:=hc p (t.m,x) hp ⟨⟨t,hq t gV,rfl,he⟩,e⟩;rw[this];decide
     rcases ok t (hq t gV) x e with rfl | rfl
     ·exact key t.b ⟨J5,.inr ⟨rfl,rfl⟩⟩
     ·exact key t.a ⟨J5,.inl ⟨rfl,rfl⟩⟩
   lia
 exact main r fun _ h=>h
structure Flow(r:List Tie)(H:Hd)(a b:Int)(k:Nat):Prop where
 ok:Ok r H
 eq:∀S,cU r H S=(k:Int)*(one (S a)-one (S b))
theorem Flow.zero(r:List Tie)(a b:Int):Flow r (fun _=>none) a b 0:=⟨fun _ _ _ h=>(by cases h),fun S=>by
 induction r with
 |nil=>simp[cU]
 |cons t r ih=>rw[cU,gn,ih];simp⟩
theorem Flow.more(nd:(r.map (·.m)).Nodup){H:Hd}(f:Flow r H a b k)(h:Way (nK r H) a w b)(hn:(a::w.map (·.2)).Nodup):Flow r (lu H w) a b (k+1):=
 ⟨(g7 nd (fun _=>true) f.ok h hn).1,fun S=>by
  rw[(g7 nd S f.ok h hn).2,f.eq S];have:((k+1:Nat):Int)=(k:Int)+1:=by lia
  rw[this,Int.add_mul]
  lia⟩
theorem Flow.less(nd:(r.map (·.m)).Nodup){H:Hd}(f:Flow r H a b (k+1))(h:Way (Led r H) a w b)(hn:(a::w.map (·.2)).Nodup):Flow r (fQ H w) a b k:=
 ⟨(g9 nd (fun _=>true) f.ok h hn).1,fun S=>by
  rw[(g9 nd S f.ok h hn).2,f.eq S];have:((k+1:Nat):Int)=(k:Int)+1:=by lia
  rw[this,Int.add_mul]
  lia⟩
theorem Flow.cut{H:Hd}(f:Flow r H a b k)(ha:S a=true)(hb:S b=false)(hc:∀p s,S p=true->nK r H p s->S s.2=true):(r.filter (over S)).length=k:=by
 have h1:=Ea hc;rw[f.eq S,ha,hb]at h1;simp[one]at h1
 lia
theorem Flow.reach{H:Hd}(f:Flow r H a b (k+1))(ha:S a=true)(hc:∀p s,S p=true->Led r H p s->S s.2=true):S b=true:=by
 cases hb:S b with
 |true=>rfl
 |false=>
  have h1:=Eb f.ok hc;rw[f.eq S,ha,hb]at h1;simp[one]at h1
  lia
end
end Fl
namespace P
open Dm
noncomputable def jR:FN:=
  (nIf (tV (e2 gNe (eV 4) (eV 5))) (Bf (xT (eV 4) (dj [(eV 3),(eV 5)]))
  (xT (eV 5) (dj [(eV 3),(eV 4)]))) nNx)
noncomputable def Ik:List Dat->Option RV:=fn 2 4
  (aF (nt 2 (iR1 (eV 0)) 1 (bN 6) (xU (iS (eV 1)) (bT [3,4,5])
  jR))
  (sR (eV 2)))
noncomputable def Ec:List Dat->Option RV:=fn 2 0
  (sR (aM 0 1 (bN 2) bZ (aM 2 1 (bN 3) (tV (e2 gNe (k7 (eV 1) (e2 gIx (eV 3) (eC (.int 0)))) (e2 gIx (eV 3) (eC (.int 1))))) (eV 3))))
noncomputable def Ed:List Dat->Option RV:=fn 2 0
  (sR (aM 0 1 (bN 2) bZ (aM 2 1 (bN 3) (tV (e2 gEq (k7 (eV 1) (e2 gIx (eV 3) (eC (.int 0)))) (e2 gIx (eV 3) (eC (.int 1))))) (eV 3))))
noncomputable def J6:FS:=
  (sIf (tV (e2 uD (e2 gIx (eV 5) (eC (.int 1))) (eV 2))) (aF (m6 2 (e2 gIx (eV 5) (eC (.int 1))) (e2 dw (e2 gDx (eV 2) (eV 4)) (d9 [(eV 5)])))
  (p9 3 (e2 gIx (eV 5) (eC (.int 1))))) sNx)
noncomputable def J7:FS:=
  (aF (sA 4 (ku 3 (eC (.int 0))))
  (fm (iS (e2 gIx (eV 0) (eV 4))) (bN 5)
  J6))
noncomputable def vc:List Dat->Option RV:=fn 2 4
  (aF (sA 2 (eD1 (eV 1) (d9 [])))
  (aF (sA 3 (d9 [(eV 1)]))
  (aF (whD (tTr (eV 3))
  J7 100)
  (sR (eV 2)))))
noncomputable def J8:FS:=
  (sIf (tV (e2 Bb (eV 2) (eV 0))) (sE (nu 0 (eV 2))) (m6 0 (eV 2) (eV 3)))
noncomputable def Ef:List Dat->Option (RV×Dat):=fnM 2 2
  (fm (iS (eV 1)) (bT [2,3])
  J8)
noncomputable def J9:FS:=
  (sE (nu 5 (eV 9)))
noncomputable def J_:FS:=
  (aF (sA 8 (bU (iS (e2 gDx (eF vc [(eFd Ed [(eV 0),(eV 5)]),(eV 2)]) (eV 3))) 1 (bN 10) bZ (e2 gIx (eV 10) (eC (.int 0)))))
  (aF (fm (iS (eV 8)) (bN 9)
  J9)
  (p9 6 (eV 8))))
noncomputable def Bx:List Dat->Option RV:=fn 5 5
  (aF (sA 5 (eB uH [(eV 1)]))
  (aF (sA 6 (d9 []))
  (aF (fm (iR1 (eV 4)) (bN 7)
  J_)
  (sR (eV 6)))))
noncomputable def Ka:FS:=
  (aF (sA 9 (eF vc [(eFd Ec [(eV 5),(eV 6)]),(eV 2)]))
  (sIf (tV (e2 Bb (eV 3) (eV 9))) (aF (sE (eFm Ef 6 [(e2 gDx (eV 9) (eV 3))]))
  (sA 8 (e2 dw (eV 8) (eC (.int 1))))) (sA 7 (eB j9 [(eB kB [(eV 9)])]))))
noncomputable def yj:List Dat->Option RV:=fn 5 5
  (aF (sA 5 (eF Ik [(eV 0),(eV 1)]))
  (aF (sA 6 eDn)
  (aF (sA 7 (eC .non))
  (aF (sA 8 (eC (.int 0)))
  (aF (whD (lJ (tV (e2 gLt (eV 8) (eV 4))) (tV (e2 xR (eV 7) (eC .non))))
  Ka 100)
  (sR (dj [(eFd Bx [(eV 5),(eV 6),(eV 2),(eV 3),(eV 8)]),(eV 7)])))))))
noncomputable def Il:List Dat->Option RV:=fn 5 0
  (sR (e2 xR (e2 gIx (eF yj [(eV 0),(eV 1),(eV 2),(eV 3),(eV 4)]) (eC (.int 1))) (eC .non)))
noncomputable def Im:List Dat->Option RV:=fn 1 0
  (sR (lO (e1 (r_ isI) (eV 0)) (A0 (e1 (r_ isB) (eV 0)))))
noncomputable def yk:List Dat->Option RV:=fn 3 0
  (sR (lO (eF Im [(eV 0)]) (mR gLe gLe (eV 1) (eV 0) (eV 2))))
noncomputable def vd:List Dat->Option RV:=fn 1 0
  (sR (eF yk [(eV 0),(eC (.int 1)),(eC (.int 10))]))
noncomputable def ve:List Dat->Option RV:=fn 2 0
  (sR (eF yk [(eV 1),(eC (.int 0)),(e2 gQ (eV 0) (eC (.int 1)))]))
noncomputable def nM:List Dat->Option RV:=fn 1 0
  (sR (eF yk [(eV 0),(eC (.int 1)),(eC (.int 6))]))
noncomputable def zQ:List Dat->Option RV:=fn 1 0
  (sR (eF yk [(eV 0),(eC (.int 0)),(e2 uf (eC (.int 10)) (eC (.int 30)))]))
noncomputable def vf:List Dat->Option RV:=fn 2 0
  (aF (sIf (tOr (ez (tV (e1 (r_ isT) (eV 1)))) (tV (e2 gNe (eB cG [(eV 1)]) (eC (.int 3))))) (sR (eC (.bl false))) sNx)
  (sR (lO (eF zQ [(e2 gIx (eV 1) (eC (.int 0)))]) (lO (eF ve [(eV 0),(e2 gIx (eV 1) (eC (.int 1)))]) (eF ve [(eV 0),(e2 gIx (eV 1) (eC (.int 2)))])))))
noncomputable def zR:List Dat->Option RV:=fn 2 0
  (sR (lO (eF vf [(eV 0),(eV 1)]) (e2 gLe (e2 gIx (eV 1) (eC (.int 1))) (e2 gIx (eV 1) (eC (.int 2))))))
noncomputable def zS:List Dat->Option RV:=fn 1 0
  (sR (eB ug [(bU (iR2 (eC (.int 1)) (eB cG [(eV 0)])) 1 (bN 1) bZ (e2 gLt (e2 gIx (eV 0) (e2 gQ (eV 1) (eC (.int 1)))) (e2 gIx (eV 0) (eV 1))))]))
noncomputable def zT:List Dat->Option RV:=fn 1 0
  (sIf (ez (tV (eF vd [(eV 0)]))) (fun _=>none) sNx)
noncomputable def vg:List Dat->Option RV:=fn 1 0
  (sIf (ez (tV (eF nM [(eV 0)]))) (fun _=>none) sNx)
noncomputable def vh:List Dat->Option RV:=fn 2 0
  (sR (aM 0 3 (bT [2,3,4]) (tV (e2 gNe (e2 gIn (eV 3) (eV 1)) (e2 gIn (eV 4) (eV 1)))) (eV 2)))
noncomputable def zU:List Dat->Option RV:=fn 3 0
  (sR (aM 0 1 (bN 3) bZ (eIf (tV (e2 gEq (eV 3) (e2 gIx (eV 0) (eV 2)))) (e2 gIx (eV 0) (eV 1)) (eV 3))))
noncomputable def rA:List Dat->Option RV:=fn 2 0
  (sR (aM 0 1 (bN 2) (tV (e2 gNe (eV 2) (eV 1))) (eV 2)))
noncomputable def Eg(ck bh:Nat):FS:=
  (aF (sA 6 (eF rA [(eV 4),(eV 5)]))
  (sIf (tOr (tV (e2 gEq (e2 gIx (eV 5) (eC (.int 1))) (e2 gIx (eV 5) (eC (.int 2))))) (tV (eFp ck 3 Il [(eV 0),(eV 6),(e2 gIx (eV 5) (eC (.int 1))),(e2 gIx (eV 5) (eC (.int 2))),(eV 2)]))) (sA 4 (eV 6)) sNx))
noncomputable def vj(ck bh:Nat):List Dat->Option RV:=fn 4 3
  (aF (sA 4 (eB qC [(eV 1)]))
  (aF (fm (iS (eV 1)) (bN 5)
  (Eg ck bh))
  (sR (eV 4))))
noncomputable def rB:List Dat->Option RV:=fn 1 0
  (sR (bU (iR1 (eV 0)) 1 (bN 1) bZ (d9 [])))
noncomputable def vm:List Dat->Option RV:=fn 5 0
  (sR (e2 gIx (eF yj [(eV 0),(eV 1),(eV 2),(eV 3),(eV 4)]) (eC (.int 0))))
noncomputable def vn(ck bh:Nat):List Dat->Option RV:=fn 5 1
  (aF (sA 5 (aM 1 1 (bN 6) (tV (e2 d_ (eV 6) (eV 2))) (eV 6)))
  (sR (aM 5 1 (bN 6) bZ (eIf (tV (e2 gEq (e2 gIx (eV 6) (eC (.int 1))) (e2 gIx (eV 6) (eC (.int 2))))) (eF rB [(eV 3)]) (eFp bh 4 vm [(eV 0),(eV 2),(e2 gIx (eV 6) (eC (.int 1))),(e2 gIx (eV 6) (eC (.int 2))),(eV 3)])))))
noncomputable def ly:List Dat->Option RV:=fn 4 0
  (sR (e2 gIx (eF yj [(eV 0),(eF rA [(eV 1),(eV 2)]),(e2 gIx (eV 2) (eC (.int 1))),(e2 gIx (eV 2) (eC (.int 2))),(eV 3)]) (eC (.int 1))))
noncomputable def zV(ck bh:Nat):List Dat->Option RV:=fn 3 2
  (aF (sE (eF vg [(eV 2)]))
  (aF (sA 3 (eF (vj ck bh) [(eV 0),(eV 1),(eV 2),(eC (.fn ck))]))
  (aF (sA 4 (aM 3 1 (bN 5) bZ (eF ly [(eV 0),(eV 3),(eV 5),(eV 2)])))
  (sR (dj [(aM 3 1 (bN 5) bZ (e2 gIx (eV 5) (eC (.int 0)))),(eF (vn ck bh) [(eV 0),(eV 1),(eV 3),(eV 2),(eC (.fn bh))]),(eV 4)])))))
noncomputable def Eh:FS:=
  (sIf (tV (e2 gNe (e2 gIx (eV 4) (eV 1)) (e2 gIx (eV 4) (eV 2)))) (sR (e2 dw (eV 3) (eC (.int 1)))) sNx)
noncomputable def vp:List Dat->Option RV:=fn 3 2
  (aF (fm (iEn (eV 0)) (bT [3,4])
  Eh)
  (sR (eC (.int 0))))
noncomputable def Ei:FS:=
  (aF (sA 8 (eF vp [(eV 3),(eV 6),(eV 7)]))
  (aF (sIf (tV (e2 gGt (eV 8) (eC (.int 0)))) (xy 3 (e2 gQ (eV 8) (eC (.int 1))) (eF zU [(e2 gIx (eV 3) (e2 gQ (eV 8) (eC (.int 1)))),(eV 6),(eV 7)])) sNx)
  (p9 4 (eV 8))))
noncomputable def rC:List Dat->Option RV:=fn 3 6
  (aF (sE (eF vg [(eV 2)]))
  (aF (sA 3 (bU (iR1 (eV 2)) 1 (bN 9) bZ (eB qI [(eV 0)])))
  (aF (sA 4 (d9 []))
  (aF (fm (A9 (eV 1)) (bT [5,6,7])
  Ei)
  (sR (e1 mZ (eV 4)))))))
noncomputable def zW:List Dat->Option RV:=fn 1 0
  (sR (dj [(e2 gIx (eV 0) (eC (.int 0))),(eB mP [(e2 gIx (eV 0) (eC (.int 1))),(e2 gIx (eV 0) (eC (.int 2)))]),(eB mQ [(e2 gIx (eV 0) (eC (.int 1))),(e2 gIx (eV 0) (eC (.int 2)))])]))
noncomputable def Ej:FS:=
  (sIf (tV (e2 gEq (e2 gIx (e2 gIx (eV 0) (e2 gQ (eV 1) (eC (.int 1)))) (eC (.int 0))) (e2 gIx (e2 gIx (eV 0) (eV 1)) (eC (.int 0))))) (fun _=>none) sNx)
noncomputable def zX:List Dat->Option RV:=fn 1 1
  (fm (iR2 (eC (.int 1)) (eB cG [(eV 0)])) (bN 1)
  Ej)
noncomputable def zY:List Dat->Option RV:=fn 2 1
  (aF (sE (eF zT [(eV 0)]))
  (aF (sIf (tOr (ez (tV (e1 (r_ isL) (eV 1)))) (ez (tV (eB ug [(aM 1 1 (bN 3) bZ (eF vf [(eV 0),(eV 3)]))])))) (fun _=>none) sNx)
  (aF (sA 2 (e1 dI (aM 1 1 (bN 3) bZ (eF zW [(eV 3)]))))
  (aF (sIf (tV (e2 gGt (eB cG [(eV 2)]) (eC (.int 60)))) (fun _=>none) sNx)
  (aF (sE (eF zX [(eV 2)]))
  (sR (eV 2)))))))
noncomputable def zZ:List Dat->Option RV:=fn 2 0
  (aF (sIf (tOr (ez (tV (eF vd [(eV 0)]))) (tOr (ez (tV (e1 (r_ isL) (eV 1)))) (tV (e2 gGt (eB cG [(eV 1)]) (eC (.int 60)))))) (sR (eC (.bl false))) sNx)
  (aF (sIf (ez (tV (eB ug [(aM 1 1 (bN 2) bZ (eF zR [(eV 0),(eV 2)]))]))) (sR (eC (.bl false))) sNx)
  (sR (eF zS [(aM 1 1 (bN 2) bZ (e2 gIx (eV 2) (eC (.int 0))))]))))
noncomputable def z0:List Dat->Option RV:=fn 2 0
  (sR (aM 0 1 (bN 2) (tV (e2 gGe (e2 gIx (eV 2) (eC (.int 0))) (eV 1))) (eV 2)))
noncomputable def z5:List Dat->Option RV:=fn 1 0
  (aF (sIf (tOr (ez (tV (e1 (r_ isT) (eV 0)))) (tV (e2 gNe (eB cG [(eV 0)]) (eC (.int 3))))) (sR (eC (.bl false))) sNx)
  (aF (sIf (tOr (ez (tV (eF nM [(e2 gIx (eV 0) (eC (.int 1)))]))) (ez (tV (eF zZ [(e2 gIx (eV 0) (eC (.int 0))),(e2 gIx (eV 0) (eC (.int 2)))])))) (sR (eC (.bl false))) sNx)
  (sR (e2 d_ (eC (.int 0)) (eF rC [(e2 gIx (eV 0) (eC (.int 0))),(e2 gIx (eV 0) (eC (.int 2))),(e2 gIx (eV 0) (eC (.int 1)))])))))
noncomputable def z6:List Dat->Option RV:=fn 1 0
  (sIf (ez (tV (eF z5 [(eV 0)]))) (fun _=>none) sNx)
noncomputable def nN:List Dat->Option RV:=fn 3 1
  (aF (sA 3 (eF rC [(eV 0),(eV 1),(eV 2)]))
  (sR (dj [(eV 0),(eV 2),(bU (HD (eV 1) (eV 3)) 2 (bT [4,5]) (tV (e2 gGt (eV 5) (eC (.int 0)))) (eV 4))])))
noncomputable def Ek:FS:=
  (aF (sA 5 (aM 1 1 (bN 7) (tV (e2 gLe (e2 gIx (eV 7) (eC (.int 2))) (eV 4))) (eV 7)))
  (aF (sA 6 (e2 dw (eV 3) (aM 3 1 (bN 7) bZ (e2 qV (eV 7) (dj [(eV 4)])))))
  (sA 3 (aM 6 1 (bN 7) (tV (e2 gLt (eB cG [(eF vh [(eV 5),(eV 7)])]) (eV 2))) (eV 7)))))
noncomputable def vq:List Dat->Option RV:=fn 3 4
  (aF (sA 3 (d9 [(dj [])]))
  (aF (fm (iR2 (eC (.int 1)) (eV 0)) (bN 4)
  Ek)
  (sR (aM 3 1 (bN 7) (tV (e2 gGt (eB cG [(eV 7)]) (eC (.int 0)))) (eV 7)))))
noncomputable def nQ:List Dat->Option RV:=fn 2 2
  (aF (sE (eF z6 [(eV 0)]))
  (aF (sA 2 (eF z0 [(e2 gIx (eV 0) (eC (.int 2))),(eV 1)]))
  (aF (sA 3 (bU (iS (eF vq [(e2 gIx (eV 0) (eC (.int 0))),(eV 2),(e2 gIx (eV 0) (eC (.int 1)))])) 1 (bN 4) bZ (dj [(eV 4),(eF vh [(eV 2),(eV 4)])])))
  (sR (eB (gk 63 (uX (dj [(eB cG [(e2 gIx (eV 0) (eC (.int 1)))]),(e2 gIx (eV 0) (eC (.int 0)))]))) [(eV 3)])))))
noncomputable def vt:List Dat->Option RV:=fn 2 0
  (aF (sIf (tV (e2 gLt (eV 1) (eB cG [(eV 0)]))) (sR (e2 gIx (eV 0) (eV 1))) sNx)
  (sR (eC (.int 0))))
noncomputable def El:FS:=
  (aF (sA 5 (e2 lP (e2 jz (e2 dw (e2 dw (e2 dw (e2 lP (eV 2) (eC (.int 998244353))) (e2 jz (e2 jz (eC (.int 89)) (eV 4)) (eV 4))) (e2 jz (eC (.int 7)) (eV 1))) (eC (.int 1))) (eC (.int 48271))) (eC (.int 2147483647))))
  (aF (sA 5 (e2 lP (e2 jz (eV 5) (eV 5)) (eC (.int 1000000007))))
  (aF (sA 5 (e2 lP (e2 jz (e2 dw (eV 5) (e2 jz (eC (.int 7919)) (eV 4))) (eC (.int 69621))) (eC (.int 2147483587))))
  (sA 3 (e2 dw (e2 jz (eV 3) (eC (.int 1000003))) (e2 lP (e2 xA (eV 5) (eC (.int 8))) (eC (.int 1000003))))))))
noncomputable def rE:List Dat->Option RV:=fn 2 4
  (aF (sA 2 (eF vt [(eV 0),(eV 1)]))
  (aF (sIf (tV (e2 gGe (eV 2) (e2 uf (eC (.int 10)) (eC (.int 18))))) (sR (d9 [(eV 2)])) sNx)
  (aF (sA 3 (eC (.int 0)))
  (aF (fm (iR1 (eC (.int 48))) (bN 4)
  El)
  (sR (d9 [(eV 3)]))))))
noncomputable def b_:List Dat->Option (RV×Dat):=fnM 2 1
  (aF (sA 2 (e2 lP (e2 gIx (eV 0) (eC (.int 0))) (eV 1)))
  (aF (xy 0 (eC (.int 0)) (e2 xA (e2 gIx (eV 0) (eC (.int 0))) (eV 1)))
  (sR (eV 2))))
noncomputable def Em:FS:=
  (aF (sA 8 (eFm b_ 0 [(eV 1)]))
  (aF (sA 9 (eFm b_ 0 [(eV 1)]))
  (aF (sIf (lJ (tV (e2 gGt (eV 4) (eC (.int 0)))) (tV (e2 gEq (eV 8) (eV 9)))) (sA 9 (e2 lP (e2 dw (eV 8) (eC (.int 1))) (eV 1))) sNx)
  (aF (sIf (lJ (tV (e2 gGt (eV 7) (eC (.int 0)))) (tV (e2 gEq (eFm b_ 0 [(eC (.int 4))]) (eC (.int 0))))) (aF (sA 8 (e2 gIx (e2 gIx (eV 6) (e2 gQ (eV 7) (eC (.int 1)))) (eC (.int 1))))
  (sA 9 (e2 gIx (e2 gIx (eV 6) (e2 gQ (eV 7) (eC (.int 1)))) (eC (.int 2))))) sNx)
  (aF (p9 6 (dj [(eV 5),(eB mP [(eV 8),(eV 9)]),(eB mQ [(eV 8),(eV 9)])]))
  (sA 5 (e2 dw (e2 dw (eV 5) (eC (.int 1))) (e2 jz (eFm b_ 0 [(e2 gIx (d9 [(eC (.int 1)),(eC (.int 3)),(eC (.int 1000))]) (eV 4))]) (e2 gIx (d9 [(eC (.int 1)),(eC (.int 1)),(e2 uf (eC (.int 10)) (eC (.int 25)))]) (eV 4))))))))))
noncomputable def vv:List Dat->Option (RV×Dat):=fnM 3 7
  (aF (sA 3 (eFm b_ 0 [(e2 dw (eV 2) (eC (.int 1)))]))
  (aF (sA 4 (eFm b_ 0 [(eC (.int 3))]))
  (aF (sA 5 (eFm b_ 0 [(eC (.int 4))]))
  (aF (sA 6 (d9 []))
  (aF (fm (iR1 (eV 3)) (bN 7)
  Em)
  (sR (eV 6)))))))
noncomputable def vz:List Dat->Option RV:=fn 2 0
  (sR (aM 0 3 (bT [2,3,4]) (tV (e2 gNe (e2 gIn (eV 3) (eV 1)) (e2 gIn (eV 4) (eV 1)))) (eV 2)))
noncomputable def Eo:FS:=
  (p9 1 (eB j9 [(bU (iR2 (eC (.int 1)) (eV 0)) 1 (bN 3) (tV (e2 gEq (e2 CD (e2 A1 (eV 2) (e2 gQ (eV 3) (eC (.int 1)))) (eC (.int 1))) (eC (.int 1)))) (eV 3))]))
noncomputable def vA:List Dat->Option RV:=fn 1 2
  (aF (sA 1 (d9 []))
  (aF (fm (iR2 (eC (.int 1)) (e2 Ba (eC (.int 1)) (e2 gQ (eV 0) (eC (.int 1))))) (bN 2)
  Eo)
  (sR (eV 1))))
noncomputable def Ep:FS:=
  (aF (sA 6 (e2 gIx (d9 [(dj [(eV 3),(eV 4),(eV 5)]),(dj [(eV 3),(eV 5),(eV 4)])]) (eFm b_ 0 [(eC (.int 2))])))
  (aF (u6 2 (eFm b_ 0 [(e2 dw (eB cG [(eV 2)]) (eC (.int 1)))]) (eV 6))
  (sIf (tV (e2 gEq (eFm b_ 0 [(eC (.int 4))]) (eC (.int 0)))) (u6 2 (eFm b_ 0 [(e2 dw (eB cG [(eV 2)]) (eC (.int 1)))]) (dj [(eV 3),(eV 4),(eV 5)])) sNx)))
noncomputable def vC:List Dat->Option (RV×Dat):=fnM 2 5
  (aF (sA 2 (d9 []))
  (aF (fm (iS (eV 1)) (bT [3,4,5])
  Ep)
  (sR (eV 2))))
noncomputable def vD(ck bh:Nat):List Dat->Option RV:=fn 3 1
  (aF (sA 3 (e2 gIx (eF (zV ck bh) [(eV 0),(eB qC [(eV 1)]),(eV 2)]) (eC (.int 0))))
  (sR (aM 1 1 (bN 4) (tV (e2 gIn (e2 gIx (eV 4) (eC (.int 0))) (eV 3))) (eV 4))))
noncomputable def yl(ck bh:Nat):FS:=
  (aF (sA 1 (eF rE [(eV 0),(eV 3)]))
  (aF (sA 4 (e2 dw (eC (.int 1)) (eFm b_ 1 [(e2 gIx (d9 [(eC (.int 3)),(eC (.int 6))]) (eFm b_ 1 [(eC (.int 2))]))])))
  (aF (sA 5 (eFm vv 1 [(eV 2),(eC (.int 14))]))
  (aF (sA 6 (kG 5 (eF zY [(eV 2),(eFm vC 1 [(eV 5)])])))
  (aF (sA 7 (eF nN [(eV 2),(eV 6),(eV 4)]))
  (aF (sA 8 (bU (iS (eF vA [(eV 2)])) 1 (bN 10) (tV (e2 gLt (eB cG [(eF vz [(eV 5),(eV 10)])]) (eV 4))) (dj [(eV 10),(eF vz [(eV 5),(eV 10)])])))
  (aF (sA 8 (eB (gk 63 (uX (dj [(eB cG [(e2 gIx (eV 0) (eC (.int 1)))]),(e2 gIx (eV 0) (eC (.int 0)))]))) [(eV 8)]))
  (aF (sIf (tOr (tV (e2 gNe (eV 6) (eV 5))) (tOr (tV (e2 gNe (eF (fun ds=>nQ (ds++[.int 0])) [(eV 7)]) (eV 8))) (tV (e2 gNe (eF (fun ds=>nQ (ds++[.int 0])) [(eF nN [(eV 2),(eF (vD ck bh) [(eV 2),(eV 6),(eV 4)]),(eV 4)])]) (eV 8))))) (sR (eC (.bl false))) sNx)
  (aF (sA 9 (eF (vD ck bh) [(eV 2),(e2 gIx (eV 7) (eC (.int 2))),(eV 4)]))
  (sIf (tOr (tV (e2 gGt (eB cG [(eV 9)]) (eB cG [(e2 gIx (eV 7) (eC (.int 2)))]))) (tV (e2 gNe (eF (fun ds=>nQ (ds++[.int 0])) [(eF nN [(eV 2),(eV 9),(eV 4)])]) (eV 8)))) (sR (eC (.bl false))) sNx))))))))))
noncomputable def rF(ck bh:Nat):List Dat->Option RV:=fn 1 9
  (aF (sA 1 (eF rE [(eV 0),(eC (.int 0))]))
  (aF (sA 2 (e2 dw (eC (.int 1)) (eFm b_ 1 [(eC (.int 7))])))
  (aF (fm (iR2 (eC (.int 1)) (eB mQ [(eC (.int 2)),(eB mP [(eC (.int 4)),(eB cG [(eV 0)])])])) (bN 3)
  (yl ck bh))
  (sR (eC (.bl true))))))
end P
local macro_rules|`(tactic|trivial)=>`(tactic|first | (dsimp only[List.set];first | done | rfl) | rfl)
local macro_rules | `(tactic| array_get_dec)=>`(tactic| first | with_reducible refine Dm.V_ ?_ | with_reducible refine Dm.U_ ?_ | ((with_reducible apply Dm.S_);(focus rfl)) | ((with_reducible apply Dm.XJ);(focus rfl)) | with_reducible refine Dm.W_ ?_ | (refine Dm.XR ?_ (by trivial)) | (refine Dm.XI ?_ (by trivial)) | (refine Dm.Y3 ?_ rfl (by trivial)) | with_reducible refine Dm.XE ?_ (by decide) | with_reducible refine Dm.XW ?_ | with_reducible refine Dm.XN ?_ | with_reducible refine Dm.Yj ?_ | with_reducible refine Dm.YD ?_ | with_reducible refine Dm.Yu ?_ | with_reducible refine Dm.Y9 ?_ | (refine Dm.XF ?_) | (refine Dm.cj.mk ?_) | with_reducible refine Dm.Zf ?_ | with_reducible refine Dm.Yl ?_ | with_reducible refine Dm.T_ ?_ | with_reducible refine Dm.m_ ?_ | with_reducible refine Dm.XU ?_ | with_reducible refine Dm.XH ?_ | with_reducible refine Dm.Yb ?_ | with_reducible refine Dm.Yc ?_ | with_reducible refine Dm.Yt ?_ | with_reducible refine Dm.Y6 ?_ | with_reducible refine Dm.Zb ?_ | with_reducible refine Dm.We.Or ?_ | with_reducible refine Dm.Zc ?_ | with_reducible refine Dm.We.Sl ?_ | with_reducible refine Dm.We.SlT ?_ | with_reducible refine Dm.Wp.none ?_ | with_reducible refine Dm.Wp.some ?_ | (refine Dm.Wsl.A (sY:=Dat.int) ?_ rfl) | (refine Dm.Wsl.mk ?_ rfl) | (refine Dm.XT ?_ rfl (by trivial) (by exact Nat.le_of_ble_eq_true rfl)) | (refine Dm.XD ?_) | (refine Dm.X8 ?_) | (refine Dm.Y0 ?_ rfl (by trivial)) | with_reducible refine Dm.Zh ?_ | with_reducible refine Dm.Zy ?_ | with_reducible refine Dm.Y8 ?_ | (refine Dm.SX ?_ rfl) | (refine Dm.yg rfl ?_) | (refine Dm.sU ?_ rfl (by trivial) ?_) | (refine Dm.Yi ?_ rfl) | (refine Dm.kI ?_ rfl (by trivial) ?_) | with_reducible refine Dm.Ws.U ?_ | (refine Dm.Sq ?_ rfl (by trivial)) | with_reducible refine Dm.XQ ?_ | (refine Dm.YC ?_) | (refine Dm.YW ?_) | (refine Dm.X0 ?_ rfl) | with_reducible refine Dm.XX ?_ | with_reducible refine Dm.Ws.bk ?_ | with_reducible refine Dm.Ws.ct ?_ | with_reducible refine Dm.Yk ?_ | with_reducible refine Dm.XY ?_ | with_reducible refine Dm.Ym ?_ | with_reducible refine Dm.Wi.L ?_ | with_reducible refine Dm.Yx ?_ | with_reducible refine Dm.Yr ?_ | (refine Dm.jQ ?_) | (refine Dm.Rx ?_) | (refine Dm.X_ ?_ rfl rfl) | (refine Dm.Ze ?_ rfl rfl) | (refine Dm.Wg2.SN ?_ rfl rfl ?_) | (refine Dm.Wg2.SO ?_ rfl rfl ?_) | (refine Dm.Wg2.eqb ?_ rfl rfl) | (refine Dm.YH ?_ rfl rfl) | (refine Dm.Wg2.Ss ?_ rfl rfl) | (refine Dm.Wg2.isb ?_ rfl rfl) | (refine Dm.Yo ?_ rfl rfl) | (refine Dm.Za ?_ rfl rfl) | (refine Dm.Yd ?_ rfl rfl) | (refine Dm.YU ?_ rfl rfl) | (refine Dm.X5 ?_ rfl rfl) | (refine Dm.Wg2.SY ?_ rfl rfl ?_) | (refine Dm.Wg2.SQ ?_ rfl rfl ?_) | (refine Dm.YX ?_ rfl rfl ?_) | (refine Dm.X3 ?_ rfl rfl) | (refine Dm.YN ?_ rfl rfl (by first | exact Or.inl (by decide) | exact Or.inr (by decide))) | (refine Dm.YN ?_ rfl rfl ?_) | (refine Dm.Y4 ?_ rfl rfl (by decide)) | (refine Dm.Y4 ?_ rfl rfl ?_) | (refine Dm.YL ?_ rfl rfl (by decide)) | (refine Dm.YL ?_ rfl rfl ?_) | (refine Dm.YI ?_ rfl rfl) | (refine Dm.Y_ ?_ rfl rfl) | (refine Dm.Wg2.inP ?_ rfl rfl) | (refine Dm.Wg2.S0 ?_ rfl rfl) | (refine Dm.XA ?_ rfl rfl rfl) | (refine Dm.Yg (sY:=Dat.int) ?_ rfl) | (refine Dm.YV ?_ rfl) | (refine Dm.Zm ?_ rfl) | (refine Dm.Yy ?_ rfl) | (refine Dm.Yz ?_ rfl) | (refine Dm.YK ?_ rfl) | (refine Dm.WB.int ?_ rfl) | (refine Dm.WB.sum2 ?_ rfl ?_) | (refine Dm.Wg1.S1 (sY:=Dat.int) ?_ rfl) | (refine Dm.Yp ?_ rfl rfl))
namespace P
open Dm Fl
section
variable{r:List Tie}{n:Nat}{Q:Val->Env->Prop}{h:List (Int×Int)}{k:Nat}{R:Int->List Step}{o p:Option Dat}{α:Type}{key:Dat->Option (List Int)}{ms:List Int}{s:Step}{a b:Int}{t:Tie}{f:List Int->Dat}{ρ ρ1:Env}{d:Dat}{j:Nat}{D T:List Tie}{x y:Int}{S:Int->Bool}{ts:List Tie}{K:RV->Prop}{i:Nat}{it:FI}
noncomputable def aL(t:Tie):Dat:=.tup [.int t.m,.int t.a,.int t.b]
noncomputable def az(r:List Tie):Dat:=.lst (r.map aL)
noncomputable def bW(s:Step):Dat:=.tup [.int s.1,.int s.2]
noncomputable def cM(w:List Step):Dat:=.lst (w.map bW)
def Pl(n:Nat)(r:List Tie):Prop:=∀t∈r,0<=t.a/\t.a<n/\0<=t.b/\t.b<n
noncomputable def cN(x:Int)(t:Tie):Option Step:=if t.a=t.b then none else if t.a=x then some (t.m,t.b) else if t.b=x then some (t.m,t.a) else none
noncomputable def aK(r:List Tie)(x:Int):List Step:=r.filterMap (cN x)
noncomputable def cz(n:Nat)(r:List Tie):List (List Dat):=(S3 n).map fun i:Nat=>(aK r i).map bW
theorem z7{i e:FE}{ρ ρ1 ρ2 ρ3:Env}{rows:List (List Dat)}{k:Int}{m:Nat}{row:List Dat}{x:Val}(h1:i ρ=some (.val (.int k),ρ1))(h2:ixN rows.length k=some m)(h3:rows[m]?=some row)(h4:e ρ1=some (x,ρ2))(h5:tk ρ2 x=some (d,ρ3))(h6:row.length<SZ) :
  xT i e ρ rows=some (ρ3,rows.set m (row++[d])):=by
 unfold xT;rw[h1];dsimp only;rw[h2];dsimp only;rw[h3];dsimp only;rw[h4];dsimp only;rw[h5];dsimp only;rw[if_pos h6]
theorem jS(r:List Tie)(t:Tie)(x:Int):aK (r++[t]) x=aK r x++(cN x t).toList:=by
 unfold aK;rw[List.filterMap_append];cases h:cN x t with
 |none=>simp[h]
 |some s=>simp[h]
theorem Er{k:Int}(h0:0<=k)(h1:k<n):ixN n k=some k.toNat:=by unfold ixN;rw[if_pos h0,if_pos h1]
theorem gK(n:Nat)(r:List Tie)(i:Nat)(h:i<n):(cz n r)[i]?=some ((aK r i).map bW):=by unfold cz;rw[TJ,UK h];rfl
theorem dJ(n:Nat)(r:List Tie):(cz n r).length=n:=by simp[cz]
theorem dZ(r:List Tie)(x:Int):(aK r x).length<=r.length:=List.length_filterMap_le _ _
theorem ym(n:Nat)(r:List Tie)(t:Tie)(h:t.a≠t.b)(a0:0<=t.a)(a1:t.a<n)(b0:0<=t.b)(b1:t.b<n) :
  ((cz n r).set t.a.toNat ((aK r t.a).map bW++[bW (t.m,t.b)])).set t.b.toNat ((aK r t.b).map bW++[bW (t.m,t.a)])=cz n (r++[t]):=by
 apply VC;intro i;by_cases hi:i<n
 ·rw[gK _ _ _ hi,jS,Tv];by_cases eb:t.b.toNat=i
  ·have e:(i:Int)=t.b:=by lia
   rw[<- eb,TN (by rw[T4,dJ];lia),eb,e];have:cN t.b t=some (t.m,t.a):=by unfold cN;rw[if_neg h,if_neg (fun z=>h z),if_pos rfl]
   rw[this];rfl
  ·rw[HT eb];by_cases ea:t.a.toNat=i
   ·have e:(i:Int)=t.a:=by lia
    rw[<- ea,TN (by rw[dJ];lia),ea,e];have:cN t.a t=some (t.m,t.b):=by unfold cN;rw[if_neg h,if_pos rfl]
    rw[this];rfl
   ·rw[HT ea,gK _ _ _ hi];have:cN i t=none:=by unfold cN;rw[if_neg h,if_neg (by lia),if_neg (by lia)]
    rw[this];simp
 ·rw[Uc (by rw[T4,T4,dJ];lia),Uc (by rw[dJ];lia)]
theorem yo(n:Nat)(r:List Tie)(t:Tie)(h:t.a=t.b):cz n (r++[t])=cz n r:=by
 unfold cz;apply UN;intro i _;rw[jS];have:cN i t=none:=by unfold cN;rw[if_pos h]
 rw[this];simp
theorem By(n:Nat)(r:List Tie)(t:Tie)(hl:r.length<1000)(a0:0<=t.a)(a1:t.a<n)(b0:0<=t.b)(b1:t.b<n)(c0 c1 c2:Cell) :
  jR [c0,c1,c2,.sh (.int t.m),.sh (.int t.a),.sh (.int t.b)] (cz n r)=some ([c0,c1,c2,.sh (.int t.m),.sh (.int t.a),.sh (.int t.b)],cz n (r++[t])):=by
 have ht:tV (e2 gNe (eV 4) (eV 5)) [c0,c1,c2,.sh (.int t.m),.sh (.int t.a),.sh (.int t.b)]=some (!decide (t.a=t.b),[c0,c1,c2,.sh (.int t.m),.sh (.int t.a),.sh (.int t.b)]):=by unfold tV e2 eV;simp[pk,sW,RV.bG]
 unfold jR nIf;rw[ht];by_cases h:t.a=t.b
 ·rw[decide_eq_true h];rw[yo n r t h];rfl
 ·rw[decide_eq_false h];show Bf _ _ _ _=_;unfold Bf;have k1:=(dZ r t.a)
  have k2:=(dZ r t.b)
  have hz:SZ=100000:=rfl;have ea:((t.a.toNat:Nat):Int)=t.a:=by lia
  have eb:((t.b.toNat:Nat):Int)=t.b:=by lia
  rw[z7 (k:=t.a) (m:=t.a.toNat) (row:=(aK r t.a).map bW) (d:=bW (t.m,t.b)) (ρ3:=[c0,c1,c2,.sh (.int t.m),.sh (.int t.a),.sh (.int t.b)]) rfl (by rw[dJ];exact Er a0 a1) (by rw[gK _ _ _ (by lia),ea]) rfl rfl (by rw[Dk];lia)];dsimp only;rw [z7 (k:=t.b) (m:=t.b.toNat) (row:=(aK r t.b).map bW) (d:=bW (t.m,t.a)) (ρ3:=[c0,c1,c2,.sh (.int t.m),.sh (.int t.a),.sh (.int t.b)]) rfl (by rw [T4,dJ];exact Er b0 b1)
   (by rw[HT (by lia),gK _ _ _ (by lia),eb]) rfl rfl (by rw[Dk];lia)]
  rw[ym n r t h a0 a1 b0 b1]
theorem nR(n:Nat)(c0 c1 c2:Cell):∀(q p:List Tie) (c3 c4 c5:Cell),Pl n q->p.length+q.length<=1000 ->
  ∃c3' c4' c5',k8 (bT [3,4,5]) jR (q.map aL) [c0,c1,c2,c3,c4,c5] (cz n p)=some ([c0,c1,c2,c3',c4',c5'],cz n (p++q))
 |[],p,c3,c4,c5,_,_=>⟨c3,c4,c5,by rw[Uu];rfl⟩
 |t::q,p,c3,c4,c5,hp,hl=>by obtain⟨a0,a1,b0,b1⟩:=hp t gV;rw[TV]at hl;obtain⟨c3',c4',c5',e⟩:=nR n c0 c1 c2 q (p++[t]) (.sh (.int t.m)) (.sh (.int t.a)) (.sh (.int t.b)) (fun u hu=>hp u (gc _ hu)) (by rw[Tg,UR];lia);refine⟨c3',c4',c5',?_⟩;rw[eg,k8];show (match jR [c0,c1,c2,.sh (.int t.m),.sh (.int t.a),.sh (.int t.b)] (cz n p) with | none=>none | some (ρ2,r2)=>k8 (bT [3,4,5]) jR (q.map aL) ρ2 r2)=_;rw[By n p t (by lia) a0 a1 b0 b1];dsimp only;rw[e,VA];rfl
theorem Es(pre:Env)(k:Nat)(hk:pre.length=k)(h0:k≠0):∀(ds:List Dat) (c:Cell),∃c',nMk (bN k) ds (pre++[c])=some (pre++[c'])
 |[],c=>⟨c,rfl⟩
 |d::ds,c=>by
  obtain⟨c',e⟩:=Es pre k hk h0 ds (.sh d);refine⟨c',?_⟩;rw[nMk];have:bN k d (pre++[c])=some (pre++[.sh d]):=by unfold bN;rw[if_neg h0,Uh _ _ (by lia)];simp[hk]
  rw[this];exact e
noncomputable def bI(n:Nat)(R:Int->List Step):Dat:=.lst ((S3 n).map fun i:Nat=>cM (R i))
theorem vE(n:Nat)(hn:n<=1000)(r:List Tie)(hr:Pl n r)(hl:r.length<=1000):Ik [.int n,az r]=some (.new (bI n (aK r))):=by
 obtain⟨c3,c4,c5,e⟩:=nR n (.sh (.int n)) (.sh (az r)) .un r [] .un .un .un hr (by simpa using hl);obtain⟨c',e2⟩:=Es [.sh (.int n),.sh (az r),.un,.un,.un,.un] 6 rfl (by decide) (ups 0 n) .un;have h0:cz n []=S5 n []:=by
  unfold cz aK;apply VC;intro i;by_cases hi:i<n
  ·rw[TJ,UK hi,Uq,if_pos hi];rfl
  ·rw[Uc (by simp;lia),Uc (by simp;lia)]
 have hu:(ups 0 n).length=n:=by simp[ups]
 have e1:iR1 (eV 0) [.sh (.int n),.sh (az r),.un,.un,.un,.un]=some (ups 0 n,[.sh (.int n),.sh (az r),.un,.un,.un,.un]):=by show (if (n:Int)<=BIG/\-BIG<=(n:Int) then some (ups 0 (n:Int).toNat,_) else none)=_;rw[if_pos (by unfold BIG;lia)];rfl
 rw[h0,VN]at e;have en:nt 2 (iR1 (eV 0)) 1 (bN 6) (xU (iS (eV 1)) (bT [3,4,5]) jR) [.sh (.int n),.sh (az r),.un,.un,.un,.un]=some (.nx [.sh (.int n),.sh (az r),.ow (bI n (aK r)),c3,c4,c5]):=by
  unfold nt;rw[if_neg (by decide),e1];dsimp only;rw[if_pos (by rw[hu];unfold SZ;lia)];show (match nMk (bN 6) (ups 0 n) ([.sh (.int n),.sh (az r),.un,.un,.un,.un]++[.un]) with | none=>none | some ρ2=>_)=_;rw[e2];dsimp only;rw[hu];show (match xU (iS (eV 1)) (bT [3,4,5]) jR [.sh (.int n),.sh (az r),.un,.un,.un,.un] (S5 n []) with | none=>none | some (ρ3,r3)=>_)=_;have:xU (iS (eV 1)) (bT [3,4,5]) jR [.sh (.int n),.sh (az r),.un,.un,.un,.un] (S5 n [])=some ([.sh (.int n),.sh (az r),.un,c3,c4,c5],cz n r):=e;rw[this];have e3:(cz n r).map Dat.lst=(S3 n).map fun i:Nat=>cM (aK r i):=by unfold cz;rw[Uj];rfl
  show some (Out.nx [.sh (.int n),.sh (az r),.ow (.lst ((cz n r).map Dat.lst)),c3,c4,c5])=_;rw[e3];rfl
 apply XM;unfold Ik
 (refine Dm.XG ?_ rfl rfl;and_intros)
 refine V_ ⟨_,en,?_⟩;refine XQ (XJ rfl (X0 ?_ rfl));rfl
noncomputable def hdF(h:List (Int×Int)):Hd:=fun m=>(h.find? fun e=>decide (e.1=m)).map (·.2)
noncomputable def hk(h:List (Int×Int)):List Int:=h.map (·.1)
noncomputable def hv(h:List (Int×Int)):List Dat:=h.map fun e=>Dat.int e.2
noncomputable def br(h:List (Int×Int)):Dat:=.dct (hk h) (hv h)
theorem l_(h:List (Int×Int))(m:Int):bH (hk h) (hv h) m=(hdF h m).map Dat.int:=by
 unfold hk hv hdF
 induction h with
 |nil=>rfl
 |cons e h ih=>
  rw[eg,eg,bH,UH];by_cases q:e.1=m
  ·rw[if_pos q,decide_eq_true q];rfl
  ·rw[if_neg q,decide_eq_false q];exact ih
theorem sZ{m:Int}:(hdF h m).isSome=decide (m∈hk h):=by
 unfold hdF hk
 induction h with
 |nil=>rfl
 |cons e h ih=>
  rw[UH];by_cases q:e.1=m
  ·rw[decide_eq_true q];simp[q]
  ·rw[decide_eq_false q];have q':¬m=e.1:=fun z=>q z.symm;simp only[eg,S4,q',false_or];exact ih
theorem MZ(o:Option Int)(y:Int):gNe ((o.map Dat.int).getD .non) (.int y)=vB (!decide (o=some y)):=by
 cases o with
 |none=>rfl
 |some z=>
  show gNe (.int z) (.int y)=_;rw[sW];have:(z=y)=(some z=some y):=by simp
  simp only[this]
theorem M0(o:Option Int)(y:Int):gEq ((o.map Dat.int).getD .non) (.int y)=vB (decide (o=some y)):=by
 cases o with
 |none=>rfl
 |some z=>
  show gEq (.int z) (.int y)=_;rw[zP];have:(z=y)=(some z=some y):=by simp
  simp only[this]
noncomputable def vF(h:List (Int×Int))(R:Int->List Step):Int->List Step:=fun x=>(R x).filter fun s=>!decide (hdF h s.1=some s.2)
noncomputable def vG(h:List (Int×Int))(R:Int->List Step):Int->List Step:=fun x=>(R x).filter fun s=>decide (hdF h s.1=some s.2)
theorem z8(g:Dat->Dat->Option RV)(p:Option Int->Int->Bool)(hg:∀o y,g ((o.map Dat.int).getD .non) (.int y)=vB (p o y))(h:List (Int×Int))(A:Cell)(w:List Step)(hl:w.length<=1000) :
  We (aM 2 1 (bN 3) (tV (e2 g (k7 (eV 1) (e2 gIx (eV 3) (eC (.int 0)))) (e2 gIx (eV 3) (eC (.int 1))))) (eV 3)) [A,.sh (br h),.sh (cM w)] fun v ρ'=>Wk ρ' v fun d ρ''=>d=cM (w.filter fun s=>p (hdF h s.1) s.2)/\ρ''=[A,.sh (br h),.sh (cM w)]:=by
 refine Ys bW w (fun s=>p (hdF h s.1) s.2) id bW (d:=cM w) ?_ rfl rfl rfl (by decide) (by unfold SZ;lia) (fun s _=>?_) fun s _ _=>?_
 ·rw[UO];exact X8 ⟨rfl,rfl⟩
 ·refine XN (U_ (ZA (S_ rfl ⟨⟨_,_,rfl⟩,U_ (S_ rfl (W_ (XA ?_ rfl rfl rfl)))⟩)));refine⟨hk h,hv h,s.1,rfl,rfl,U_ (S_ rfl (W_ (XA ?_ rfl rfl rfl)))⟩;refine⟨_,_,_,rfl,rfl,(by rw[l_];exact hg _ _),?_⟩;exact XF ⟨rfl,rfl⟩
 ·exact S_ rfl (XD ⟨rfl,rfl⟩)
theorem gT(n:Nat)(hn:n<=1000)(R:Int->List Step)(hR:∀i:Nat,i<n->(R i).length<=1000)(h:List (Int×Int)):Ec [bI n R,br h]=some (.new (bI n (vF h R))):=by
 apply XM;unfold Ec
 (refine Dm.XG ?_ rfl rfl;and_intros)
 refine XQ ?_;refine Ye (fun i:Nat=>cM (R i)) (S3 n) id (fun i:Nat=>cM (vF h R i)) (d:=bI n R) ?_ rfl rfl rfl (by decide) (by rw[Tu];unfold SZ;lia) fun i hi=>?_
 ·rw[UO];rfl
 ·exact z8 gNe (fun o y=>!decide (o=some y)) MZ h _ (R i) (hR i (Tw.mp hi))
theorem s_(n:Nat)(hn:n<=1000)(R:Int->List Step)(hR:∀i:Nat,i<n->(R i).length<=1000)(h:List (Int×Int)):Ed [bI n R,br h]=some (.new (bI n (vG h R))):=by
 apply XM;unfold Ed
 (refine Dm.XG ?_ rfl rfl;and_intros)
 refine XQ ?_;refine Ye (fun i:Nat=>cM (R i)) (S3 n) id (fun i:Nat=>cM (vG h R i)) (d:=bI n R) ?_ rfl rfl rfl (by decide) (by rw[Tu];unfold SZ;lia) fun i hi=>?_
 ·rw[UO];rfl
 ·exact z8 gEq (fun o y=>decide (o=some y)) M0 h _ (R i) (hR i (Tw.mp hi))
theorem Io(ks:List Int)(i:Int):(ks.any fun k=>decide (k=i))=decide (i∈ks):=by
 induction ks with
 |nil=>rfl
 |cons k ks ih=>
  rw[U4,ih];by_cases h:k=i
  ·simp[h]
  ·have h':¬i=k:=fun z=>h z.symm;simp[h,h']
theorem z_{ks:List Int}{vs:List Dat}{i:Int}(h:i∉ks):kY ks i=ks++[i]/\kZ ks vs i d=vs++[d]:=by unfold kY kZ;rw[Io,decide_eq_false h];exact⟨rfl,rfl⟩
theorem BA(key:α->Int)(val:α->Dat)(xs:List α)(i:Int):bH (xs.map key) (xs.map val) i=(xs.find? fun x=>decide (key x=i)).map val:=by
 induction xs with
 |nil=>rfl
 |cons x xs ih=>
  rw[eg,eg,bH,UH];by_cases h:key x=i
  ·simp[h]
  ·simp[h,ih]
theorem eW[DecidableEq α]:∀(l m:List α),l.Nodup->(∀x∈l,x∈m)->l.length<=m.length
 |[],_,_,_=>TM _
 |x::l,m,h,k=>by
  obtain⟨h1,h2⟩:=TH.mp h;have hx:x∈m:=k x gV;have:=eW l (m.erase x) h2 fun y hy=>(List.mem_erase_of_ne (fun e:y=x=>h1 (by rw[<- e];exact hy))).mpr (k y (gc _ hy));rw[List.length_erase_of_mem hx]at this;have:=List.length_pos_of_mem hx;simp
  lia
noncomputable def places(n:Nat):List Int:=(S3 n).map fun i:Nat=>(i:Int)
theorem places_len(n:Nat):(places n).length=n:=by simp[places]
theorem yp(n:Nat)(x:Int):x∈places n↔0<=x/\x<n:=by
 unfold places;rw[Td];constructor
 ·rintro⟨i,hi,rfl⟩;have:=Tw.mp hi
  lia
 ·rintro⟨h0,h1⟩;exact⟨x.toNat,Tw.mpr (by lia),by lia⟩
noncomputable abbrev Sr:=List (Int×List Step)
noncomputable def sk(s:Sr):List Int:=s.map (·.1)
noncomputable def sv(s:Sr):List Dat:=s.map fun e=>cM e.2
def InR(R:Int->List Step)(p:Int)(s:Step):Prop:=s∈R p
structure Et(R:Int->Step->Prop)(a:Int)(w:List Step)(p:Int):Prop where
 way:Way R a w p
 nd:(a::w.map (·.2)).Nodup
structure Fnd(n:Nat)(R:Int->List Step)(a:Int)(s:Sr):Prop where
 nd:(sk s).Nodup
 pl:∀x∈sk s,0<=x/\x<n
 st:a∈sk s
 way:∀e∈s,Et (InR R) a e.2 e.1/\∀x∈a::e.2.map (·.2),x∈sk s
theorem Fnd.len{a:Int}{s:Sr}(h:Fnd n R a s):s.length<=n:=by
 have:=eW (sk s) (places n) h.nd fun x hx=>(yp n x).mpr (h.pl x hx);rw[places_len]at this
 simpa [sk] using this
theorem Fnd.Ip{a:Int}{s:Sr}(h:Fnd n R a s){e:Int×List Step}(he:e∈s):e.2.length<s.length:=by
 obtain⟨h1,h2⟩:=h.way e he;have:=eW (a::e.2.map (·.2)) (sk s) h1.nd h2;simp[sk]at this
 lia
theorem dD(s:Sr)(x:Int)(w:List Step):sk (s++[(x,w)])=sk s++[x]:=by simp[sk]
theorem Iq(s:Sr)(x:Int)(w:List Step):sv (s++[(x,w)])=sv s++[cM w]:=by simp[sv]
theorem tu(s:Sr)(x:Int):(∃w,(x,w)∈s/\bH (sk s) (sv s) x=some (cM w))\/(x∉sk s/\bH (sk s) (sv s) x=none):=by
 unfold sk sv;rw[BA (fun e:Int×List Step=>e.1) (fun e=>cM e.2) s x];cases hf:s.find? fun e=>decide (e.1=x) with
 |none=>refine Or.inr ⟨fun h=>?_,rfl⟩;obtain⟨e,he,hx⟩:=Td.mp h;have:=Va.mp hf e he;simp[hx]at this
 |some e=>
  have h1:=Vi hf;have h2:=Wx hf;have h2:e.1=x:=by simpa using h2
  exact Or.inl ⟨e.2,by rw[<- h2];exact h1,rfl⟩
theorem lA(s:Sr)(x:Int):(bH (sk s) (sv s) x).isSome=decide (x∈sk s):=by
 rcases tu s x with⟨ts,h1,h2⟩ | ⟨h1,h2⟩
 ·have:x∈sk s:=Td.mpr ⟨_,h1,rfl⟩;rw[h2,decide_eq_true this];rfl
 ·rw[h2,decide_eq_false h1];rfl
theorem Fnd.start{a:Int}(a0:0<=a)(a1:a<n):Fnd n R a [(a,[])] where
 nd:=by simp[sk]
 pl:=by intro x hx;simp[sk]at hx;subst hx;exact⟨a0,a1⟩
 st:=by simp[sk]
 way:=by intro e he;simp at he;subst he;exact⟨⟨rfl,by simp⟩,by simp[sk]⟩
theorem Fnd.step{a:Int}{s:Sr}(h:Fnd n R a s){p:Int}{w:List Step}(hp:(p,w)∈s){u:Step}(hu:u∈R p)(hn:u.2∉sk s)(u0:0<=u.2)(u1:u.2<n):Fnd n R a (s++[(u.2,w++[u])]) where
 nd:=by rw[dD];exact UE.mpr ⟨h.nd,by simp,fun x hx y hy=>by rw[Th.mp hy];exact fun e=>hn (e▸hx)⟩
 pl:=by
  intro x hx;rw[dD]at hx;rcases Tp.mp hx with hx | hx
  ·exact h.pl x hx
  ·rw[Th.mp hx];exact⟨u0,u1⟩
 st:=by rw[dD];exact T6 _ h.st
 way:=by
  intro e he;rw[dD];rcases Tp.mp he with he | he
  ·obtain⟨k1,k2⟩:=h.way e he;exact⟨k1,fun x hx=>T6 _ (k2 x hx)⟩
  ·rw[Th.mp he];obtain⟨k1,k2⟩:=h.way _ hp;refine⟨⟨k1.way.snoc hu,?_⟩,fun x hx=>?_⟩
   ·dsimp only at k1 k2 ⊢;rw[Tv,<- VI];exact UE.mpr ⟨k1.nd,by simp,fun x hx y hy=>by rw[Th.mp hy];exact fun e:x=u.2=>hn (by rw[<- e];exact k2 x hx)⟩
   ·dsimp only at k1 k2 hx ⊢;rw[Tv,<- VI]at hx;rcases Tp.mp hx with hx | hx
    ·exact T6 _ (k2 x hx)
    ·exact TF _ (by simpa using hx)
def Done(R:Int->List Step)(K:List Int)(x:Int):Prop:=∀u∈R x,u.2∈K
noncomputable def Ir(n:Nat)(R:Int->List Step)(a:Int)(s:Sr)(ps:List Int)(c4 c5:Cell):Env:=[.sh (bI n R),.sh (.int a),.ow (.dct (sk s) (sv s)),.ow (.lst (ps.map Dat.int)),c4,c5]
theorem M3{ps:List Int}{p0:Int}{e:FE}{ρ ρ2:Env}(q:Q (.val (.int p0)) ρ2)(h:ρ[i]?=some (.ow (.lst ((p0::ps).map Dat.int))))(he:e ρ=some (.val (.int 0),ρ))(hs:ρ.set i (.ow (.lst (ps.map Dat.int)))=ρ2):We (ku i e) ρ Q:=
 ⟨_,_,by unfold ku;rw[h];dsimp only;rw[he];dsimp only;rw[h];dsimp only;rw[if_pos (by unfold BIG;lia)];show some (Val.val (.int p0),ρ.set i (.ow (.lst (ps.map Dat.int))))=_;rw[hs],q⟩
theorem Iu(n:Nat)(R:Int->List Step)(x:Int)(h0:0<=x)(h1:x<n):gIx (bI n R) (.int x)=some (.val (cM (R x))):=by
 unfold bI gIx;dsimp only;rw[jP (fun i:Nat=>cM (R i)) (S3 n) x h0 (by rw[Tu];exact h1)];have e:(((S3 n)[x.toNat]'(by rw[Tu];lia):Nat):Int)=x:=by rw[List.getElem_range];lia
 rw[e];rfl
theorem lB(n:Nat)(hn:n<=40)(R:Int->List Step)(hR:∀i:Int,0<=i->i<n->∀u∈R i,0<=u.2/\u.2<n)(a:Int)(a0:0<=a)(a1:a<n) :
  ∃s:Sr,vc [bI n R,.int a]=some (.new (.dct (sk s) (sv s)))/\Fnd n R a s/\∀x∈sk s,Done R (sk s) x:=by
 suffices h:Wr (vc [bI n R,.int a]) fun v=>∃s:Sr,v=.new (.dct (sk s) (sv s))/\Fnd n R a s/\∀x∈sk s,Done R (sk s) x by obtain⟨v,h1,s,rfl,h2⟩:=h;exact⟨s,h1,h2⟩
 unfold vc
 (refine Dm.XG ?_ rfl rfl;and_intros)
 repeat array_get_dec
 refine YR (fun k ρ=>∃(s:Sr) (ps:List Int) (c4 c5:Cell),ρ=Ir n R a s ps c4 c5/\Fnd n R a s/\(∀x∈ps,x∈sk s)/\(∀x∈sk s,x∈ps\/Done R (sk s) x)/\k=ps.length+(n-s.length)/\k<=40) ?_ 100 n _ (by lia) ⟨[(a,[])],[a],_,_,rfl,Fnd.start a0 a1,by simp[sk],by simp[sk],by simp;lia,hn⟩;rintro k ρ ⟨s,ps,c4,c5,rfl,F,hps,hd,hk,S2⟩;unfold Ir;refine ZG ?_;refine XJ rfl ?_;refine⟨_,!(ps.map Dat.int).isEmpty,rfl,rfl,?_⟩;have len:=F.len;cases ps with
 |nil=>refine XS rfl ?_;refine XQ (XJ rfl (X0 ?_ rfl));exact⟨s,rfl,F,fun x hx=>(hd x hx).resolve_left (by simp)⟩
 |cons p0 ps0=>
  refine Yh rfl ?_;unfold J7;refine V_ (XE ?_ (by decide));refine M3 (ps:=ps0) (p0:=p0) ?_ rfl rfl rfl;refine XR ?_ (by trivial);have hp0:p0∈sk s:=hps p0 (by simp);obtain⟨q0,q1⟩:=F.pl p0 hp0;refine XY (Ym (U_ (S_ rfl (S_ rfl (XA ?_ rfl rfl (Iu n R p0 q0 q1))))));refine XD (jQ ?_);refine XZ bW _ _ (R p0) _ _ _ _ _ (fun p q ρ=>∃(s:Sr) (ps:List Int) (c5:Cell),ρ=Ir n R a s ps (.sh (.int p0)) c5/\Fnd n R a s/\(∀x∈ps,x∈sk s)/\p0∈sk s/\(∀x∈sk s,x∈ps\/x=p0\/Done R (sk s) x)/\(∀u∈p,u.2∈sk s)/\k=ps.length+1+(n-s.length)) ⟨s,ps0,_,rfl,F,fun x hx=>hps x (by simp[hx]),hp0,?_,by simp,by rw[hk];simp⟩ ?_ ?_
  ·intro x hx;rcases hd x hx with h | h
   ·rcases S4.mp h with h | h
    ·exact .inr (.inl h)
    ·exact .inl h
   ·exact .inr (.inr h)
  ·rintro p u q ρ e' ⟨s,ps,c5,rfl,F,hps,hp0,hd,hp,hk⟩;have len:=F.len;have hu:u∈R p0:=by rw[e'];simp
   obtain⟨u0,u1⟩:=hR p0 q0 q1 u hu;unfold Ir;refine Dm.bQ rfl (by trivial) ?_;unfold J6;refine XW (XN (U_ (U_ (S_ rfl (W_ (XA ?_ rfl rfl rfl))))));refine XJ rfl (Y_ ?_ rfl rfl);refine XF ?_;rw[lA];refine⟨fun h=>?_,fun h=>?_⟩
   ·have hnew:=ndT h;obtain⟨w,t1,t2⟩:∃w,(p0,w)∈s/\bH (sk s) (sv s) p0=some (cM w):=by
     rcases tu s p0 with h | h
     ·exact h
     ·exact absurd hp0 h.1
    have wl:=F.Ip t1;refine V_ (Y8 (U_ (U_ (XJ rfl (S_ rfl (YT t2 ?_ rfl rfl))))));refine Yc (m_ (S_ rfl (T_ (XT ?_ rfl rfl (by exact Ud rfl)))));refine YX ?_ rfl rfl (by rw[Dk];dsimp only at wl;simp;unfold SZ;lia);refine X8 (yg rfl (U_ (S_ rfl (W_ (XA ?_ rfl rfl rfl)))));refine cj.mk (sU ?_ rfl (by trivial) (by simp only[sk,Dk];unfold SZ;lia));refine Yi (U_ (S_ rfl (W_ (XA ?_ rfl rfl rfl)))) rfl;refine XD (kI ?_ rfl (by trivial) (by rw[Dk];unfold SZ;lia));have F':=F.step t1 hu hnew u0 u1;have len':=F'.len;have em:Dat.lst (w.map bW++[bW u])=cM (w++[u]):=by simp[cM]
    obtain⟨p1,p2⟩:=z_ (ks:=sk s) (vs:=sv s) (i:=u.2) (d:=cM (w++[u])) hnew;refine⟨s++[(u.2,w++[u])],ps++[u.2],.sh (bW u),?_,F',?_,?_,?_,?_,?_⟩
    ·rw[em,p1,p2,dD,Iq,Tv];rfl
    ·intro x hx;rw[dD];rcases Tp.mp hx with hx | hx
     ·exact T6 _ (hps x hx)
     ·exact TF _ hx
    ·rw[dD];exact T6 _ hp0
    ·intro x hx;rw[dD]at hx ⊢;rcases Tp.mp hx with hx | hx
     ·rcases hd x hx with h | h | h
      ·exact .inl (T6 _ h)
      ·exact .inr (.inl h)
      ·exact .inr (.inr fun y hy=>T6 _ (h y hy))
     ·exact .inl (TF _ hx)
    ·intro v hv;rw[dD];rcases Tp.mp hv with hv | hv
     ·exact T6 _ (hp v hv)
     ·rw[Th.mp hv];simp
    ·rw[hk];simp at len' ⊢;lia
   ·have hold:=ndF h;refine XX ?_;refine⟨s,ps,.sh (bW u),rfl,F,hps,hp0,hd,fun v hv=>?_,hk⟩;rcases Tp.mp hv with hv | hv
    ·exact hp v hv
    ·rw[Th.mp hv];exact hold
  ·rintro ρ ⟨s,ps,c5,rfl,F,hps,hp0,hd,hp,hk⟩;refine⟨ps.length+(n-s.length),by lia,s,ps,_,_,rfl,F,hps,fun x hx=>?_,rfl,by lia⟩;rcases hd x hx with h | rfl | h
   ·exact .inl h
   ·exact .inr hp
   ·exact .inr h
noncomputable def lC(h:List (Int×Int))(s:Step):List (Int×Int):=if s.1∈hk h then h.filter fun e=>decide (e.1≠s.1) else h++[s]
theorem nS(h:List (Int×Int))(m:Int):hdF (h.filter fun e=>decide (e.1≠m))=put (hdF h) m none:=by
 funext x
 unfold put hdF;rw[List.find?_filter];by_cases e:x=m
 ·subst e;rw[if_pos rfl,Va.mpr fun y _=>by simp];rfl
 ·rw[if_neg e]
  congr 1
  congr 1
  funext y
  by_cases q:y.1=x
  ·have:y.1≠m:=fun z=>e (q.symm.trans z);simp[q,e]
  ·simp[q]
theorem Iv(h:List (Int×Int))(s:Step)(hn:s.1∉hk h):hdF (h++[s])=put (hdF h) s.1 (some s.2):=by
 funext x
 unfold put hdF;rw[List.find?_append];by_cases e:x=s.1
 ·subst e;rw[if_pos rfl];have:(h.find? fun e=>decide (e.1=s.1))=none:=Va.mpr fun y hy=>by
   intro z;exact hn (Td.mpr ⟨y,hy,of_decide_eq_true z⟩)
  rw[this];simp
 ·rw[if_neg e];have e':¬s.1=x:=fun z=>e z.symm;cases hf:(h.find? fun e=>decide (e.1=x)) with
  |none=>simp[e']
  |some y=>rfl
theorem Eu(h:List (Int×Int))(s:Step):hdF (lC h s)=gp (hdF h) s.1 s.2:=by
 unfold lC gp;rw[sZ];by_cases q:s.1∈hk h
 ·rw[if_pos q,if_pos (decide_eq_true q),nS]
 ·rw[if_neg q,if_neg (by simpa using q),Iv h s q]
noncomputable def bK(h:List (Int×Int)):List Step->List (Int×Int)
 |[]=>h
 |s::w=>bK (lC h s) w
theorem rG:∀(w:List Step) (h:List (Int×Int)),hdF (bK h w)=lu (hdF h) w
 |[],_=>rfl
 |s::w,h=>by rw[bK,lu,rG w,Eu]
theorem gv:∀(w:List Step) (h:List (Int×Int)) (s:Step),bK h (w++[s])=lC (bK h w) s
 |[],_,_=>rfl
 |_::w,h,s=>by rw[VI,bK,bK,gv w]
theorem mh(h:List (Int×Int))(m:Int):fC (hk h) (hv h) m=hk (h.filter fun e=>decide (e.1≠m))/\fD (hk h) (hv h) m=hv (h.filter fun e=>decide (e.1≠m)):=by
 unfold hk hv
 induction h with
 |nil=>exact⟨rfl,rfl⟩
 |cons e h ih=>
  rw[eg,eg,fC,fD];by_cases q:e.1=m
  ·rw[if_pos q,if_pos q,Ur (by simpa using q)];exact ih
  ·rw[if_neg q,if_neg q,Us (by simpa using q),eg,eg,ih.1,ih.2];exact⟨rfl,rfl⟩
structure Hok(r:List Tie)(h:List (Int×Int)):Prop where
 nd:(hk h).Nodup
 sub:∀m∈hk h,m∈r.map (·.m)
theorem Hok.len(k:Hok r h):h.length<=r.length:=by
 have:=eW (hk h) (r.map (·.m)) k.nd k.sub
 simpa [hk] using this
theorem Hok.nil(r:List Tie):Hok r []:=⟨by simp[hk],by simp[hk]⟩
theorem Hok.drop(k:Hok r h)(m:Int):Hok r (h.filter fun e=>decide (e.1≠m)):=by refine⟨(k.nd.sublist (W5.map _ (U5))),fun x hx=>k.sub x ?_⟩;obtain⟨e,he,rfl⟩:=Td.mp hx;exact Td.mpr ⟨e,(T3.mp he).1,rfl⟩
theorem Hok.lead(k:Hok r h)(hs:s.1∈r.map (·.m)):Hok r (lC h s):=by
 unfold lC;split
 ·exact k.drop _
 ·rename_i q;refine⟨?_,fun x hx=>?_⟩
  ·unfold hk;rw[Tv];exact UE.mpr ⟨k.nd,by simp,fun x hx y hy=>by
    have:y=s.1:=by simpa using hy
    rw[this];exact fun e=>q (e▸hx)⟩
  ·unfold hk at hx;rw[Tv]at hx;rcases Tp.mp hx with hx | hx
   ·exact k.sub x hx
   ·have:x=s.1:=by simpa using hx
    rw[this];exact hs
theorem Hok.Ew:∀{w:List Step} {h:List (Int×Int)},Hok r h->(∀s∈w,s.1∈r.map (·.m))->Hok r (bK h w)
 |[],_,k,_=>k
 |s::w,h,k,hs=>by rw[bK];exact Hok.Ew (w:=w) (k.lead (hs s gV)) fun u hu=>hs u (gc _ hu)
theorem qj(r:List Tie)(hl:r.length<=1000)(h:List (Int×Int))(k:Hok r h)(w:List Step)(hw:∀s∈w,s.1∈r.map (·.m)):Ef [br h,cM w]=some (.val .non,br (bK h w)):=by
 suffices q:WrM (Ef [br h,cM w]) fun z d=>z=.val .non/\d=br (bK h w) by obtain⟨z,d,h1,rfl,rfl⟩:=q;exact h1
 unfold Ef;refine YF ?_ rfl rfl;refine XY (Ym (S_ rfl (XD (jQ ?_))));refine XZ bW _ _ w _ _ _ _ _ (fun p q ρ=>∃c2 c3,ρ=[.ow (br (bK h p)),.sh (cM w),c2,c3]) ⟨_,_,rfl⟩ ?_ ?_
 ·rintro p s q ρ e ⟨c2,c3,rfl⟩;refine Dm.bQ rfl (by trivial) ?_;have kp:Hok r (bK h p):=k.Ew fun u hu=>hw u (by rw[e];exact T6 _ hu);have len:=kp.len;unfold J8;refine XW (XN (U_ (S_ rfl (XJ rfl (YI ?_ rfl rfl)))));refine XF ?_;rw[l_,V5,sZ];refine X4 (fun hm=>?_) fun hm=>?_
  ·obtain⟨x,hx⟩:∃x,hdF (bK h p) s.1=some x:=Option.isSome_iff_exists.mp (by rw[sZ];exact decide_eq_true hm);refine Yk (Zj (k:=s.1) (d:=.int x) (by rw[l_,hx];rfl) ?_ rfl rfl rfl);refine⟨.sh (.int s.1),.sh (.int s.2),?_⟩;rw[gv,lC,if_pos hm,(mh _ _).1,(mh _ _).2];rfl
  ·refine Y8 (S_ rfl (XD (yg rfl (S_ rfl (cj.mk (sU ?_ rfl (by trivial) ?_))))))
   ·refine⟨.sh (.int s.1),.sh (.int s.2),?_⟩;rw[gv,lC,if_neg hm];obtain⟨p1,p2⟩:=z_ (ks:=hk (bK h p)) (vs:=hv (bK h p)) (i:=s.1) (d:=.int s.2) hm;rw[p1,p2];unfold br hk hv;rw[Tv,Tv];rfl
   ·unfold hk;rw[Dk];unfold SZ;lia
 ·rintro ρ ⟨c2,c3,rfl⟩;exact⟨_,rfl,rfl,rfl⟩
theorem lD{x:Int}:s∈aK r x↔gq r x s:=by
 unfold aK;rw[Vw];constructor
 ·rintro⟨t,ht,e⟩;unfold cN at e;split at e
  ·cases e
  rename_i J5;split at e
  ·rename_i ha;cases e;exact⟨t,ht,rfl,J5,.inl ⟨ha,rfl⟩⟩
  ·split at e
   ·rename_i hb;cases e;exact⟨t,ht,rfl,J5,.inr ⟨hb,rfl⟩⟩
   ·cases e
 ·rintro⟨t,ht,hm,J5,he⟩;refine⟨t,ht,?_⟩;unfold cN;rw[if_neg J5];rcases he with⟨h1,h2⟩ | ⟨h1,h2⟩
  ·rw[if_pos h1,hm,h2]
  ·rw[if_neg (fun z=>J5 (z.trans h1.symm)),if_pos h1,hm,h2]
theorem vH(hp:Pl n r){x:Int}(h:gq r x s):(0<=x/\x<n)/\0<=s.2/\s.2<n:=by
 obtain⟨t,ht,_,_,he⟩:=h;have:=hp t ht
 lia
theorem Iw{x:Int}(h:gq r x s):s.1∈r.map (·.m):=by obtain⟨t,ht,hm,_⟩:=h;exact Td.mpr ⟨t,ht,hm⟩
theorem Ex{R:Int->Step->Prop}(hR:∀p s,R p s->gq r p s){y:Int}:∀{w:List Step} {x:Int},Way R x w y->∀s∈w,s.1∈r.map (·.m)
 |[],_,_,s,hs=>by cases hs
 |u::w,x,h,s,hs=>by
  rcases S4.mp hs with rfl | hs
  ·exact Iw (hR _ _ h.1)
  ·exact Ex hR h.2 s hs
theorem nT{p:Int}:InR (vF h (aK r)) p s↔nK r (hdF h) p s:=by unfold InR vF nK;rw[T3,lD];simp
theorem tw{p:Int}:InR (vG h (aK r)) p s↔Led r (hdF h) p s:=by unfold InR vG Led;rw[T3,lD];simp
theorem BB(w:List Step):bJ (cM w)=true:=gI _ _ fun s=>by unfold bW bJ;exact kJ _ (by intro x hx;simp at hx;rcases hx with rfl | rfl<;>exact rq _)
theorem g_(n:Nat)(R:Int->List Step):bJ (bI n R)=true:=gI (fun i:Nat=>cM (R i)) _ fun i=>BB _
noncomputable def mso(w:List Step):List Int:=w.map (·.1)
noncomputable def msD(w:List Step):Dat:=.lst ((mso w).map Dat.int)
noncomputable def cC(h:List (Int×Int)):List Int->List (Int×Int)
 |[]=>h
 |m::ms=>cC (h.filter fun e=>decide (e.1≠m)) ms
theorem lE:∀(ms:List Int) (h:List (Int×Int)) (m:Int),cC h (ms++[m])=(cC h ms).filter fun e=>decide (e.1≠m)
 |[],_,_=>rfl
 |_::ms,h,m=>by rw[VI,cC,cC,lE ms]
theorem kL:∀(w:List Step) (h:List (Int×Int)),hdF (cC h (mso w))=fQ (hdF h) w
 |[],_=>rfl
 |s::w,h=>by show hdF (cC _ (mso w))=fQ _ w;rw[kL w,nS]
theorem lF:∀(ms:List Int) (h:List (Int×Int)) (x:Int),x∉ms->hdF (cC h ms) x=hdF h x
 |[],_,_,_=>rfl
 |m::ms,h,x,hx=>by rw[cC,lF ms _ x fun z=>hx (gc _ z),nS];unfold put;rw[if_neg fun z=>hx (by rw[z];exact gV)]
theorem Hok.drops:∀{ms:List Int} {h:List (Int×Int)},Hok r h->Hok r (cC h ms)
 |[],_,k=>k
 |m::ms,h,k=>by rw[cC];exact Hok.drops (ms:=ms) (k.drop m)
theorem yq{H:Hd}{y:Int}:∀{w:List Step} {x:Int},Way (Led r H) x w y->∀s∈w,H s.1=some s.2
 |[],_,_,s,hs=>by cases hs
 |u::w,x,h,s,hs=>by
  rcases S4.mp hs with rfl | hs
  ·exact h.1.2
  ·exact yq h.2 s hs
structure Ey(r:List Tie)(a b:Int)(ws:List (List Step)):Prop where
 way:∀w∈ws,Et (gq r) a w b
 nd:(ws.map mso).flatten.Nodup
noncomputable def BC(n:Nat)(r:List Tie)(h0 h:List (Int×Int))(a b:Int)(c:Nat)(ws:List (List Step))(c7 c8 c9:Cell):Env:=
 [.sh (bI n (aK r)),.sh (br h0),.sh (.int a),.sh (.int b),.sh (.int c),.ow (br h),.ow (.lst (ws.map msD)),c7,c8,c9]
theorem BE(n:Nat)(hn:n<=40)(r:List Tie)(hp:Pl n r)(nd:(r.map (·.m)).Nodup)(hl:r.length<=1000)(h:List (Int×Int))(k:Hok r h)(a b:Int)(a0:0<=a)(a1:a<n)(c:Nat)(hc:c<=1000)(fl:Flow r (hdF h) a b c) :
  ∃ws:List (List Step),Bx [bI n (aK r),br h,.int a,.int b,.int c]=some (.new (.lst (ws.map msD)))/\ws.length=c/\Ey r a b ws:=by
 suffices q:Wr (Bx [bI n (aK r),br h,.int a,.int b,.int c]) fun v=>∃ws:List (List Step),v=.new (.lst (ws.map msD))/\ws.length=c/\Ey r a b ws by obtain⟨v,h1,ws,rfl,h2⟩:=q;exact⟨ws,h1,h2⟩
 unfold Bx
 (refine Dm.XG ?_ rfl rfl;and_intros)
 refine V_ (XE (XU (m_ (S_ rfl (T_ (Zp (ks:=hk h) (vs:=hv h) ?_ rfl))))) (by decide));refine XI ?_ (by trivial);refine V_ (XE (Yc (T_ (XT ?_ rfl rfl (by decide)))) (by decide));refine XI ?_ (by trivial);refine V_ (XY (Yx (S_ rfl (cj.mk ⟨?_,by unfold BIG;lia,by unfold BIG;lia⟩))));refine XZ (fun i:Nat=>Dat.int (0+(i:Nat))) _ _ (S3 c) _ _ _ _ _ (fun p q ρ=>∃(h':List (Int×Int)) (ws:List (List Step)) (c7 c8 c9:Cell),ρ=BC n r h h' a b c ws c7 c8 c9/\Hok r h'/\ws.length=p.length/\Flow r (hdF h') a b q.length/\Ey r a b ws/\∀m∈(ws.map mso).flatten,hdF h' m=none)
  ⟨h,[],_,_,_,rfl,k,rfl,by rw[Tu];exact fl,⟨by simp,by simp⟩,by simp⟩ ?_ ?_
 ·rintro p x q ρ e ⟨h',ws,c7,c8,c9,rfl,k',wl,fl',W,hno⟩;rw[TV]at fl';unfold BC;refine Dm.bQ rfl (by trivial) ?_;unfold J_;have hR:∀i:Nat,i<n->(aK r i).length<=1000:=fun i _=>Tq (dZ r i) hl;obtain⟨s,es,F,hd⟩:=lB n hn (vG h' (aK r)) (fun i _ _ u hu=>(vH hp ((tw (h:=h')).mp hu).1).2) a a0 a1;have hb:b∈sk s:=by
   have:=fl'.reach (S:=fun y=>decide (y∈sk s)) (decide_eq_true F.st) fun y u hy hu=>decide_eq_true (hd y (of_decide_eq_true hy) u (tw.mpr hu));exact of_decide_eq_true this
  obtain⟨w,t1,t2⟩:∃w,(b,w)∈s/\bH (sk s) (sv s) b=some (cM w):=by
   rcases tu s b with h | h
   ·exact h
   ·exact absurd hb h.1
  obtain⟨⟨w1,w2⟩,_⟩:=F.way _ t1;have Ip:=F.Ip t1;have Su:=F.len;dsimp only at w1 w2 Ip;have w1':Way (Led r (hdF h')) a w b:=w1.mono fun _ _ z=>tw.mp z;have wm:=lq nd (fun p s h=>h.1) w1' w2;have ER:iS (e2 gDx (eF vc [(eFd Ed [(eV 0),(eV 5)]),(eV 2)]) (eV 3)) [.sh (bI n (aK r)),.sh (br h),.sh (.int a),.sh (.int b),.sh (.int c),.ow (br h'),.ow (.lst (ws.map msD)),.sh (.int (0+(x:Nat))),c8,c9]
    = some (w.map bW,[.sh (bI n (aK r)),.sh (br h),.sh (.int a),.sh (.int b),.sh (.int c),.ow (br h'),.ow (.lst (ws.map msD)),.sh (.int (0+(x:Nat))),c8,c9]):=by
   apply Yq;refine Ym (U_ (XH (m_ (Y5 (m_ (S_ rfl (m_ (XJ rfl (T_ ?_)))))))));refine⟨_,_,_,rfl,s_ n (by lia) (aK r) hR h',g_ _ _,?_⟩;refine m_ (S_ rfl (T_ (XC es ?_ rfl rfl rfl rfl)));refine S_ rfl (YT t2 ?_ rfl rfl);exact XD (jQ ⟨rfl,rfl⟩)
  refine V_ (XE (Yn bW w (fun s=>s.1) Dat.int ?_ ER rfl (by decide) (by unfold SZ;lia) fun s _=>U_ (S_ rfl (W_ (XA (XD ⟨rfl,rfl⟩) rfl rfl rfl)))) (by decide));refine XI ?_ (by trivial);refine V_ (XY (Ym (XJ rfl (Y0 (jQ ?_) rfl (by trivial)))));refine XZ Dat.int _ _ (mso w) _ _ _ _ _ (fun pm qm ρ=>∃c9,ρ=BC n r h (cC h' pm) a b c ws (.sh (.int (0+(x:Nat)))) (.sh (msD w)) c9) ⟨_,rfl⟩ ?_ ?_
  ·rintro pm m qm ρ em ⟨c9,rfl⟩;unfold BC;refine Dm.bQ rfl (by trivial) ?_;unfold J9;have hm:m∉pm:=by
    have:(mso w).Nodup:=wm;rw[em]at this;exact fun z=>(UE.mp this).2.2 m z m gV rfl
   have hmw:m∈mso w:=by rw[em];simp
   obtain⟨st,hst,rfl⟩:=Td.mp hmw;have hx:hdF (cC h' pm) st.1=some st.2:=by rw[lF pm h' st.1 hm];exact yq w1' st hst
   refine Yk (Zj (k:=st.1) (d:=.int st.2) (by rw[l_,hx];rfl) ?_ rfl rfl rfl);refine⟨.sh (.int st.1),?_⟩;rw[lE,(mh _ _).1,(mh _ _).2];rfl
  ·rintro ρ ⟨c9,rfl⟩;unfold BC;refine Yi (S_ rfl (XD (kI ?_ rfl (by trivial) ?_))) rfl
   ·have fl2:=fl'.less nd w1' w2;rw[<- kL]at fl2;refine⟨cC h' (mso w),ws++[w],.sh (.int (0+(x:Nat))),.sh (msD w),c9,?_,k'.drops,by simp[wl],fl2,⟨fun v hv=>?_,?_⟩,fun m hm=>?_⟩
    ·rw[Tv];rfl
    ·rcases Tp.mp hv with hv | hv
     ·exact W.way v hv
     ·rw[Th.mp hv];exact⟨w1'.mono fun _ _ z=>z.1,w2⟩
    ·rw[Tv,List.flatten_append];refine UE.mpr ⟨W.nd,by rw[eg,Wu,Uy,List.flatten_nil,Uu];exact wm,fun m hm z hz=>?_⟩;intro e;subst e;have:m∈mso w:=by simpa using hz
     obtain⟨st,hst,rfl⟩:=Td.mp this;have h1:=yq w1' st hst;rw[hno _ hm]at h1;cases h1
    ·rw[Tv,List.flatten_append]at hm;rw[kL];rcases Tp.mp hm with hm | hm
     ·by_cases z:m∈mso w
      ·exact g8 z
      ·rw[gu fun u hu e=>z (Td.mpr ⟨u,hu,e⟩)];exact hno m hm
     ·rw[eg,Wu,Uy,List.flatten_nil,Uu]at hm;exact g8 hm
   ·rw[Dk,wl];have:=congrArg List.length e;rw[Tu,Tg]at this;unfold SZ;lia
 ·rintro ρ ⟨h',ws,c7,c8,c9,rfl,k',wl,fl',W,hno⟩;unfold BC;refine XQ (XJ rfl (X0 ?_ rfl));exact⟨ws,rfl,by rw[wl,Tu],W⟩
noncomputable def tupI(S:List Int):Dat:=.tup (S.map Dat.int)
noncomputable def ovr(S:List Int)(t:Tie):Bool:=decide (t.a∈S) != decide (t.b∈S)
noncomputable def bB(r:List Tie)(S:List Int):List Int:=(r.filter (ovr S)).map (·.m)
def Qv(n:Nat)(a b:Int)(S:List Int):Prop:=S.Pairwise (· < ·)/\(∀x∈S,0<=x/\x<n)/\a∈S/\b∉S
noncomputable def gU:Option (List Int)->Dat
 |none=>.non
 |some S=>tupI S
theorem Ez{l:List Int}(h:l.Nodup):(bg ltI l).Pairwise (· < ·):=by
 have h1:=qi l;have h2:(bg ltI l).Nodup:=(bA ltI l).nodup_iff.mpr h;refine(Xr.and h1 h2).imp fun {x y} q=>?_;obtain⟨q1,q2⟩:=q;simp[ltI]at q1
 lia
structure Apart(n:Nat)(r:List Tie)(a b:Int)(most:Int)(ws:List (List Step))(o:Option (List Int)):Prop where
 ways:Ey r a b ws
 le:(ws.length:Int)<=most
 all:o=none->(ws.length:Int)=most
 side:∀S,o=some S->Qv n a b S/\(bB r S).length=ws.length/\(ws.length:Int)<most
noncomputable def Qw(n:Nat)(r:List Tie)(a b most:Int)(c5:Cell)(h:List (Int×Int))(o:Option (List Int))(k:Nat)(c9:Cell):Env:=
 [.sh (.int n),.sh (az r),.sh (.int a),.sh (.int b),.sh (.int most),c5,.ow (br h),.sh (gU o),.sh (.int k),c9]
def EA(n:Nat)(r:List Tie)(c:Cell):Prop:=c=.ow (bI n (aK r))\/c=.sh (bI n (aK r))
theorem Aa(ws:List (List Step)):bJ (.lst (ws.map msD))=true:=gI _ _ fun w=>yh _
theorem Kc{c5:Cell}(h5:EA n r c5)(A B C D E G H I J:Cell){Q:Val->Env->Prop}(Bu:List FE){Q':List Val->Env->Prop}
  (k:∀x,(x=.slot 5/\c5=.ow (bI n (aK r)))\/(x=.val (bI n (aK r))/\c5=.sh (bI n (aK r)))->Was Bu [A,B,C,D,E,c5,G,H,I,J] fun xs ρ2=>Q' (x::xs) ρ2):Was (eV 5::Bu) [A,B,C,D,E,c5,G,H,I,J] Q':=by
 rcases h5 with rfl | rfl
 ·exact m_ (XJ rfl (k _ (.inl ⟨rfl,rfl⟩)))
 ·exact m_ (S_ rfl (k _ (.inr ⟨rfl,rfl⟩)))
theorem eu(n:Nat)(hn:n<=40)(r:List Tie)(hp:Pl n r)(nd:(r.map (·.m)).Nodup)(hl:r.length<=1000)(a b:Int)(a0:0<=a)(a1:a<n)(b0:0<=b)(b1:b<n)(most:Int)(m0:0<=most)(m1:most<=90) :
  ∃ws o,yj [.int n,az r,.int a,.int b,.int most]=some (.val (.tup [.lst (ws.map msD),gU o]))/\Apart n r a b most ws o:=by
 suffices q:Wr (yj [.int n,az r,.int a,.int b,.int most]) fun v=>∃ws o,v=.val (.tup [.lst (ws.map msD),gU o])/\Apart n r a b most ws o by obtain⟨v,h1,ws,o,rfl,h2⟩:=q;exact⟨ws,o,h1,h2⟩
 unfold yj
 (refine Dm.XG ?_ rfl rfl;and_intros)
 refine V_ (XE (XH (m_ (S_ rfl (m_ (S_ rfl (T_ (XC (vE n (by lia) r hp hl) ?_ rfl rfl rfl rfl))))))) (by decide));refine XI ?_ (by trivial);refine V_ (XE (Zh (XI ?_ (by trivial))) (by decide));refine V_ (XE (W_ (XR ?_ (by trivial))) (by decide));refine V_ (XE (W_ (XR ?_ (by trivial))) (by decide));have hR:∀i:Nat,i<n->(aK r i).length<=1000:=fun i _=>Tq (dZ r i) hl;refine V_ ?_;refine YR (fun k ρ=>∃ (c5:Cell) (h:List (Int×Int)) (o:Option (List Int)) (Qz:Nat) (c9:Cell),ρ=Qw n r a b most c5 h o Qz c9∧EA n r c5∧Hok r h∧Flow r (hdF h) a b Qz∧(Qz:Int)≤most∧(∀ S,o=some S→Qv n a b S∧(bB r S).length=Qz∧(Qz:Int)<most) ∧
   k=(most-Qz).toNat+(if o=none then 1 else 0)) ?_ 100 (most.toNat+1) _ (by lia) ⟨_,[],none,0,_,rfl,.inl rfl,Hok.nil r,Flow.zero r a b,m0,by simp,by simp⟩
 rintro k ρ ⟨c5,h,o,Qz,c9,rfl,h5,hok,fl,hle,hs,hk⟩;unfold Qw;have Fp:o≠none\/¬(Qz:Int)<most->Ws (sR (dj [(eFd Bx [(eV 5),(eV 6),(eV 2),(eV 3),(eV 8)]),(eV 7)])) [.sh (.int n),.sh (az r),.sh (.int a),.sh (.int b),.sh (.int most),c5,.ow (br h),.sh (gU o),.sh (.int Qz),c9]
   (fun _=>∃ws o,RV.val .non=.val (.tup [.lst (ws.map msD),gU o])/\Apart n r a b most ws o) (fun v _=>∃ws o,v=.val (.tup [.lst (ws.map msD),gU o])/\Apart n r a b most ws o) (fun _=>False) (fun _=>False):=fun hend=>by
  obtain⟨ws,ep,wl,W⟩:=BE n hn r hp nd hl h hok a b a0 a1 Qz (by lia) fl;refine XQ (Yb (m_ (Y5 (Kc (Q:=fun _ _=>True) h5 _ _ _ _ _ _ _ _ _ _ fun x hx=>?_))));refine m_ (XJ rfl (m_ (S_ rfl (m_ (S_ rfl (m_ (S_ rfl (T_ ?_))))))));have fin2:Apart n r a b most ws o:=⟨W,by rw[wl];exact hle,fun z=>by rw[wl];have:=hend.resolve_left (fun y=>y z);lia,fun S z=>by rw[wl];exact hs S z⟩
  rcases hx with⟨rfl,rfl⟩ | ⟨rfl,rfl⟩
  ·refine⟨_,_,_,rfl,ep,Aa ws,?_⟩;refine m_ (S_ rfl (T_ (XT ?_ rfl rfl (by exact Ud rfl))));exact⟨ws,o,rfl,fin2⟩
  ·refine⟨_,_,_,rfl,ep,Aa ws,?_⟩;refine m_ (S_ rfl (T_ (XT ?_ rfl rfl (by exact Ud rfl))));exact⟨ws,o,rfl,fin2⟩
 refine YD (XN (U_ (S_ rfl (S_ rfl (Yo (XF ?_) rfl rfl)))));refine X4 (fun En=>?_) fun hge=>?_
 ·refine XN (U_ (S_ rfl (W_ (YZ (XF ?_) rfl rfl))));cases o with
  |some S=>refine XS rfl ?_;exact Fp (.inl (by simp))
  |none=>
   refine Yh rfl ?_;unfold Ka;obtain⟨s,es,F,hd⟩:=lB n hn (vF h (aK r)) (fun i _ _ u hu=>(vH hp ((nT (h:=h)).mp hu).1).2) a a0 a1;have Su:=F.len;have search:∀{N:Env->Prop} {R:RV->Env->Prop} {B C:Env->Prop},(∀c5',EA n r c5'->N [.sh (.int n),.sh (az r),.sh (.int a),.sh (.int b),.sh (.int most),c5',.ow (br h),.sh (gU none),.sh (.int Qz),.ow (.dct (sk s) (sv s))]) ->
     Ws (sA 9 (eF vc [(eFd Ec [(eV 5),(eV 6)]),(eV 2)])) [.sh (.int n),.sh (az r),.sh (.int a),.sh (.int b),.sh (.int most),c5,.ow (br h),.sh (gU none),.sh (.int Qz),c9] N R B C:=fun {N R B C} kN=>by
    refine XE (XH (m_ (Y5 (Kc (Q:=fun _ _=>True) h5 _ _ _ _ _ _ _ _ _ _ fun x hx=>?_)))) (by decide);refine m_ (XJ rfl (T_ ?_));rcases hx with⟨rfl,rfl⟩ | ⟨rfl,rfl⟩
    ·refine⟨_,_,_,rfl,gT n (by lia) (aK r) hR h,g_ _ _,?_⟩;refine m_ (S_ rfl (T_ (XC es ?_ rfl rfl rfl rfl)));exact XI (kN _ (.inr rfl)) (by trivial)
    ·refine⟨_,_,_,rfl,gT n (by lia) (aK r) hR h,g_ _ _,?_⟩;refine m_ (S_ rfl (T_ (XC es ?_ rfl rfl rfl rfl)));exact XI (kN _ (.inr rfl)) (by trivial)
   refine V_ (search fun c5' h5'=>?_);refine XW (XN (U_ (S_ rfl (XJ rfl (YI (XF ?_) rfl rfl)))));rw[lA];refine X4 (fun hb=>?_) fun hb=>?_
   ·obtain⟨w,t1,t2⟩:∃w,(b,w)∈s/\bH (sk s) (sv s) b=some (cM w):=by
     rcases tu s b with h | h
     ·exact h
     ·exact absurd hb h.1
    obtain⟨⟨w1,w2⟩,_⟩:=F.way _ t1;dsimp only at w1 w2;have w1':Way (nK r (hdF h)) a w b:=w1.mono fun _ _ z=>nT.mp z;have wms:=Ex (fun p s (z:nK r (hdF h) p s)=>z.1) w1';have el:=qj r hl h hok w wms;refine V_ (Yk (YQ (m_ (U_ (XJ rfl (S_ rfl (YT t2 (T_ (YA el ?_ rfl rfl rfl)) rfl rfl))))) rfl));refine XE (U_ (S_ rfl (W_ (X5 (XR ?_ (by trivial)) rfl rfl)))) (by decide);have fl2:=fl.more nd w1' w2;rw[<- rG]at fl2;refine⟨(most-(Qz+1:Nat)).toNat+1,by rw[hk];simp;lia,c5',bK h w,none,Qz+1,.ow (.dct (sk s) (sv s)),?_,h5',hok.Ew wms,fl2,by lia,by simp,by simp⟩;have:((Qz:Int)+1)=((Qz+1:Nat):Int):=by lia
    rw[this]
   ·refine XE (XU (m_ (XU (m_ (XJ rfl (T_ (ZC (ks:=sk s) (vs:=sv s) ?_ rfl (by simp only[sk,Dk];lia)))))))) (by decide);refine T_ (YY ?_ rfl);refine XR ?_ (by trivial);have pm:=bA ltI (sk s);have hS:∀x,x∈bg ltI (sk s)↔x∈sk s:=fun x=>pm.mem_iff;refine⟨(most-Qz).toNat,by rw[hk];simp,c5',h,some (bg ltI (sk s)),Qz,.ow (.dct (sk s) (sv s)),rfl,h5',hok,fl,hle,fun S z=>?_,by simp⟩;cases z;refine⟨⟨Ez F.nd,fun x hx=>F.pl x ((hS x).mp hx),(hS a).mpr F.st,fun z=>hb ((hS b).mp z)⟩,?_,En⟩;have:=fl.cut (S:=fun y=>decide (y∈bg ltI (sk s))) (decide_eq_true ((hS a).mpr F.st)) (decide_eq_false fun z=>hb ((hS b).mp z)) fun y u hy hu=>decide_eq_true ((hS _).mpr (hd y ((hS y).mp (of_decide_eq_true hy)) u (nT.mpr hu)));unfold bB;rw[Dk];exact this
 ·refine XS rfl ?_;exact Fp (.inr hge)
theorem dF(x n:Int)(h:1<=n):0<=x % n/\x % n<n:=⟨Int.emod_nonneg x (by lia),Int.emod_lt_of_pos x (by lia)⟩
noncomputable def at'(ns:List Int)(i:Int):Int:=ns.getD i.toNat 0
theorem M4(ns:List Int)(i:Int)(h0:0<=i)(h1:i<ns.length):gIx (.lst (ns.map Dat.int)) (.int i)=some (.val (.int (at' ns i))):=by show (atI (ns.map Dat.int) i).map RV.val=_;rw[Dm.jP Dat.int ns i h0 h1];unfold at';rw[UP,Tf (by lia)];rfl
theorem Qy{ns:List Int}{i:Int}(h0:0<=i)(h1:i<ns.length)(k:K (.val (.int (at' ns i))))(ho:o=some (.lst (ns.map Dat.int)))(hp:p=some (.int i)):Wg2 gIx o p K:=⟨_,_,_,ho,hp,M4 ns i h0 h1,k⟩
noncomputable def bq(x:Int):Dat:=.lst [.int x]
theorem Iz(ns:List Int)(k:Int)(h0:0<=k):∃x,vt [.lst (ns.map Dat.int),.int k]=some (.val (.int x)):=by
 suffices h:Wr (vt [.lst (ns.map Dat.int),.int k]) fun v=>∃x,v=.val (.int x) by obtain⟨v,h1,c,rfl⟩:=h;exact⟨c,h1⟩
 unfold vt
 (refine Dm.XG ?_ rfl rfl;and_intros)
 repeat array_get_dec
 refine⟨fun h=>?_,fun h=>?_⟩
 ·have h:=of_decide_eq_true h
  repeat array_get_dec
  refine Qy h0 (by simpa using h) ?_ rfl rfl;exact⟨_,rfl⟩
 ·repeat array_get_dec
  exact⟨_,rfl⟩
theorem Ab(ns:List Int)(k:Int)(h0:0<=k)(h1:k<1000):∃x,rE [.lst (ns.map Dat.int),.int k]=some (.new (bq x)):=by
 suffices h:Wr (rE [.lst (ns.map Dat.int),.int k]) fun v=>∃x,v=.new (bq x) by obtain⟨v,h1,c,rfl⟩:=h;exact⟨c,h1⟩
 obtain⟨c,ec⟩:=Iz ns k h0;unfold rE
 (refine Dm.XG ?_ rfl rfl;and_intros)
 refine V_ (XE (XH (m_ (S_ rfl (m_ (S_ rfl (T_ (XO ec ?_ rfl rfl))))))) (by decide));refine XR ?_ (by trivial);refine V_ (XW (XN (U_ (S_ rfl (U_ (W_ (W_ (YJ (z:=1000000000000000000) ?_ rfl rfl (by decide) (by decide)))))))));refine YU (XF ?_) rfl rfl;refine⟨fun h=>?_,fun h=>?_⟩
 ·repeat array_get_dec
  exact⟨_,rfl⟩
 ·refine XX ?_;refine V_ (XE (W_ (XR ?_ (by trivial))) (by decide));refine V_ (XY (Yx (W_ (cj.mk ⟨?_,by decide,by decide⟩))));refine XZ (fun i:Nat=>Dat.int (0+(i:Nat))) _ _ (S3 48) _ _ _ _ _ (fun p q ρ=>∃(x:Int) (c4 c5:Cell),ρ=[.sh (.lst (ns.map Dat.int)),.sh (.int k),.sh (.int c),.sh (.int x),c4,c5]) ⟨_,_,_,rfl⟩ ?_ ?_
  ·rintro p i q ρ e ⟨x,c4,c5,rfl⟩;have hi:i<48:=Tw.mp (by rw[e];simp);refine Dm.bQ rfl (by trivial) ?_;unfold El;refine X7 (fun ρ=>∃y:Int,(0<=y/\y<2147483647)/\ρ=[.sh (.lst (ns.map Dat.int)),.sh (.int k),.sh (.int c),.sh (.int x),.sh (.int (0+(i:Nat))),.sh (.int y)]) ?_ ?_
   ·repeat array_get_dec
    ·exact⟨_,dF _ _ (by decide),rfl⟩
    all_goals unfold B64
    all_goals lia
   rintro ρ ⟨y,hy,rfl⟩;refine X7 (fun ρ=>∃y:Int,(0<=y/\y<2147483647)/\ρ=[.sh (.lst (ns.map Dat.int)),.sh (.int k),.sh (.int c),.sh (.int x),.sh (.int (0+(i:Nat))),.sh (.int y)]) ?_ ?_
   ·repeat array_get_dec
    ·exact⟨_,by have:=dF (y*y) 1000000007 (by decide);lia,rfl⟩
    ·exact .inl (by unfold B64;lia)
   rintro ρ ⟨z,hz,rfl⟩;refine X7 (fun ρ=>∃y:Int,(0<=y/\y<2147483647)/\ρ=[.sh (.lst (ns.map Dat.int)),.sh (.int k),.sh (.int c),.sh (.int x),.sh (.int (0+(i:Nat))),.sh (.int y)]) ?_ ?_
   ·repeat array_get_dec
    ·exact⟨_,by have:=dF ((z+7919*(0+((i:Nat):Int)))*69621) 2147483587 (by decide);lia,rfl⟩
   rintro ρ ⟨u,hu,rfl⟩
   repeat array_get_dec
   exact⟨_,_,_,rfl⟩
  ·rintro ρ ⟨x,c4,c5,rfl⟩
   repeat array_get_dec
   exact⟨_,rfl⟩
theorem IA(x m:Int)(h0:0<m)(h1:m<jA):b_ [bq x,.int m]=some (.val (.int (x % m)),bq (x / m)):=by
 suffices h:WrM (b_ [bq x,.int m]) fun v d=>v=.val (.int (x % m))/\d=bq (x / m) by obtain⟨v,d,h1,rfl,rfl⟩:=h;exact h1
 unfold b_;refine YF ?_ rfl rfl;and_intros;unfold bq
 repeat array_get_dec
 ·refine Zd ?_
  repeat array_get_dec
  ·refine⟨_,0,_,rfl,rfl,rfl,?_⟩
   repeat array_get_dec
   exact⟨_,rfl,rfl,rfl⟩
  ·exact⟨h0,h1⟩
 ·exact h0
def Wtk(j:Nat)(m:Int)(ρ1:Env)(Q:Val->Env->Prop):Prop:=∃x ρ3,Q (.val (.int (x % m))) ρ3/\ρ1[j]?=some (.ow (bq x))/\ρ1.set j (.ow (bq (x / m)))=ρ3/\0<m/\m<jA
theorem mj{x m:Int}{ρ1 ρ3:Env}(q:Q (.val (.int (x % m))) ρ3)(h2:ρ1[j]?=some (.ow (bq x)))(hn:ρ1.set j (.ow (bq (x / m)))=ρ3)(h0:0<m)(h1:m<jA):Wtk j m ρ1 Q:=⟨_,_,q,h2,hn,h0,h1⟩
theorem YB{a:FE}{ρ:Env}{d0:Dat}(h:We a ρ fun v ρ1=>cj v fun m=>Wtk j m ρ1 Q)(h0:ρ[j]?=some (.ow d0)):We (eFm b_ j [a]) ρ Q:=by refine YQ (m_ ?_) h0;obtain⟨v,ρ1,e1,m,rfl,x,ρ3,q,e2,e3,m0,m1⟩:=h;exact⟨_,_,e1,T_ (YA (IA x m m0 m1) q e2 rfl e3)⟩
theorem X6{a:FE}{ρ:Env}{x m:Int}(ha:a ρ=some (.val (.int m),ρ))(h0:0<m)(h1:m<jA)(hj:ρ[j]?=some (.ow (bq x)))(k:∀t x':Int,0<=t->t<m->∀ρ3,ρ.set j (.ow (bq x'))=ρ3->Q (.val (.int t)) ρ3):We (eFm b_ j [a]) ρ Q:=
 YB ⟨_,_,ha,m,rfl,mj (k _ _ (dF x m (by lia)).1 (dF x m (by lia)).2 _ rfl) hj rfl h0 h1⟩ hj
def Good(n:Int):Int->List Tie->Prop
 |_,[]=>True
 |lo,t::r=>lo<=t.m/\0<=t.a/\t.a<=t.b/\t.b<n/\Good n (t.m+1) r
theorem Good.pl:∀{r:List Tie} {lo:Int},Good n lo r->Pl n r
 |[],_,_,t,ht=>by cases ht
 |u::r,lo,h,t,ht=>by
  obtain⟨h1,h2,h3,h4,h5⟩:=h;rcases S4.mp ht with rfl | ht
  ·lia
  ·exact Good.pl h5 t ht
theorem Good.lo{n:Int}:∀{r:List Tie} {lo:Int},Good n lo r->∀t∈r,lo<=t.m
 |[],_,_,t,ht=>by cases ht
 |u::r,lo,h,t,ht=>by
  obtain⟨h1,h2,h3,h4,h5⟩:=h;rcases S4.mp ht with rfl | ht
  ·exact h1
  ·have:=Good.lo h5 t ht;lia
theorem Good.nd{n:Int}:∀{r:List Tie} {lo:Int},Good n lo r->(r.map (·.m)).Nodup
 |[],_,_=>by simp
 |u::r,lo,h=>by
  obtain⟨h1,h2,h3,h4,h5⟩:=h;rw[eg,TH];refine⟨fun z=>?_,Good.nd h5⟩;obtain⟨t,ht,e⟩:=Td.mp z;have:=Good.lo h5 t ht
  lia
theorem Good.snoc{n:Int}:∀{r:List Tie} {lo hi:Int} {t:Tie},Good n lo r->(∀u∈r,u.m<hi)->lo<=hi->hi=t.m->0<=t.a->t.a<=t.b->t.b<n->Good n lo (r++[t])
 |[],_,_,_,_,_,h,e,h1,h2,h3=>⟨by lia,h1,h2,h3,trivial⟩
 |u::r,lo,hi,t,h,hu,hl,e,h1,h2,h3=>by obtain⟨k1,k2,k3,k4,k5⟩:=h;exact⟨k1,k2,k3,k4,Good.snoc k5 (fun v hv=>hu v (gc _ hv)) (by have:=hu u gV;lia) e h1 h2 h3⟩
theorem Good.pl'{n:Int}:∀{r:List Tie} {lo:Int},Good n lo r->∀t∈r,0<=t.a/\t.a<n/\0<=t.b/\t.b<n
 |[],_,_,t,ht=>by cases ht
 |u::r,lo,h,t,ht=>by
  obtain⟨h1,h2,h3,h4,h5⟩:=h;rcases S4.mp ht with rfl | ht
  ·lia
  ·exact Good.pl' h5 t ht
theorem ix3(a b c:Int)(x:Int)(h0:0<=x)(h:x<3):gIx (.lst [.int a,.int b,.int c]) (.int x)=some (.val (.int (if x=0 then a else if x=1 then b else c))):=by
 have:x=0\/x=1\/x=2:=by lia
 rcases this with rfl | rfl | rfl<;>rfl
theorem EB(r:List Tie)(i:Int)(h0:0<=i)(h1:i<r.length):gIx (az r) (.int i)=some (.val (aL (r[i.toNat]'(by omega)))):=by unfold az gIx;dsimp only;rw[jP aL r i h0 h1];rfl
noncomputable abbrev Z28:Int:=10000000000000000000000000000
noncomputable abbrev Z30:Int:=1000000000000000000000000000000
noncomputable def RE(pool:Int)(n most many wide M5:Int)(r:List Tie)(c7 c8 c9:Cell):Env:=
 [.ow (bq pool),.sh (.int n),.sh (.int most),.sh (.int many),.sh (.int wide),.sh (.int M5),.ow (az r),c7,c8,c9]
theorem IB(a b:Int):(if b<a then b else a)<=(if b>a then b else a):=by split<;>split<;>lia
theorem BF(x n most:Int)(n1:1<=n)(n10:n<=10)(m0:0<=most)(m60:most<=60) :
  ∃(r:List Tie) (x':Int),vv [bq x,.int n,.int most]=some (.new (az r),bq x')/\Good n 0 r/\(r.length:Int)<=most/\∀t∈r,t.m<=Z30:=by
 suffices hh:WrM (vv [bq x,.int n,.int most]) fun v d=>∃(r:List Tie) (x':Int),v=.new (az r)/\d=bq x'/\Good n 0 r/\(r.length:Int)<=most/\∀t∈r,t.m<=Z30 by obtain⟨v,d,h1,h,x',rfl,rfl,h2⟩:=hh;exact⟨h,x',h1,h2⟩
 unfold vv;refine YF ?_ rfl rfl;and_intros;refine V_ (XE ?_ (by decide));refine X6 (m:=most+1) rfl (by lia) (by unfold jA;lia) rfl fun many x1 h1 h2 ρ3 e=>?_;subst e;refine XR ?_ (by trivial);refine V_ (XE ?_ (by decide));refine X6 (m:=3) rfl (by decide) (by decide) rfl fun wide x2 k1 k2 ρ3 e=>?_;subst e;refine XR ?_ (by trivial);refine V_ (XE ?_ (by decide));refine X6 (m:=4) rfl (by decide) (by decide) rfl fun mo x3 w1 w2 ρ3 e=>?_;subst e;refine XR ?_ (by trivial);refine V_ (XE (Yc (T_ (XT ?_ rfl rfl (by decide)))) (by decide));refine XI ?_ (by trivial);refine V_ (XY (Yx (S_ rfl (cj.mk ⟨?_,by unfold BIG;lia⟩))));refine XZ (fun i:Nat=>Dat.int (0+(i:Nat))) _ _ (S3 many.toNat) _ _ _ _ _ (fun p q ρ=>∃(x mo:Int) (r:List Tie) (c7 c8 c9:Cell),ρ=RE x n most many wide mo r c7 c8 c9/\p=S3 p.length/\Good n 0 r/\r.length=p.length/\(∀u∈r,u.m<mo)/\0<=mo/\mo<=4+(p.length:Int)*Z28)
  ⟨_,_,[],_,_,_,rfl,rfl,trivial,rfl,(fun u hu=>by cases hu),w1,by show mo<=4+((0:Nat):Int)*Z28;lia⟩ ?_ ?_
 ·rintro p i q ρ e ⟨x,mo,r,c7,c8,c9,rfl,hpp,hg,hl,hu,hm,hb⟩;have lp:(S3 many.toNat).length=p.length+(q.length+1):=by rw[e];simp
  rw[Tu]at lp;have hi:i=p.length:=by
   have h1:(S3 many.toNat)[p.length]?=some i:=by rw[e];simp
   rw[UK (by lia)]at h1;exact(Option.some.inj h1).symm
  unfold RE;refine Dm.bQ rfl (by trivial) ?_;unfold Em;refine V_ (XE ?_ (by decide));refine X6 (m:=n) rfl (by lia) (by unfold jA;lia) rfl fun one y1 o1 o2 ρ3 e1=>?_;subst e1;refine XR ?_ (by trivial);refine V_ (XE ?_ (by decide));refine X6 (m:=n) rfl (by lia) (by unfold jA;lia) rfl fun oth y2 u1 u2 ρ3 e1=>?_;subst e1;refine XR ?_ (by trivial);refine X7 (fun ρ=>∃o:Int,(0<=o/\o<n)/\ρ=RE y2 n most many wide mo r (.sh (.int (0+(i:Nat)))) (.sh (.int one)) (.sh (.int o))) ?_ ?_
  ·refine XW (YD (XN (U_ (S_ rfl (W_ (Yd (XF ?_) rfl rfl))))));refine X4 (fun _=>?_) fun _=>?_
   ·refine XN (U_ (S_ rfl (S_ rfl (X_ (XF ?_) rfl rfl))));refine X4 (fun _=>?_) fun _=>?_
    ·refine XE (U_ (U_ (S_ rfl (W_ (X5 (S_ rfl (YL ?_ rfl rfl (by lia))) rfl rfl))))) (by decide);exact XR ⟨_,dF _ n n1,rfl⟩ (by trivial)
    ·exact XX ⟨oth,⟨u1,u2⟩,rfl⟩
   ·exact XS rfl (XX ⟨oth,⟨u1,u2⟩,rfl⟩)
  rintro ρ ⟨o,⟨q1,q2⟩,rfl⟩;refine X7 (fun ρ=>∃y v o:Int,(0<=v/\v<n)/\(0<=o/\o<n)/\ρ=RE y n most many wide mo r (.sh (.int (0+(i:Nat)))) (.sh (.int v)) (.sh (.int o))) ?_ ?_
  ·unfold RE;refine XW (YD (XN (U_ (S_ rfl (W_ (Yd (XF ?_) rfl rfl))))));refine X4 (fun hk=>?_) fun _=>?_
   ·refine XN (U_ ?_);refine X6 (m:=4) rfl (by decide) (by decide) rfl fun t y3 t1 t2 ρ3 e1=>?_;subst e1;refine W_ (X_ (XF ?_) rfl rfl);refine X4 (fun _=>?_) fun _=>?_
    ·have hj:(0:Int)<=0+((i:Nat):Int)-1:=by lia
     have hj2:0+((i:Nat):Int)-1<r.length:=by rw[hl];lia
     have pt:=hg.pl' (r[(0+((i:Nat):Int)-1).toNat]'(by lia)) (List.getElem_mem _);have e1:=EB r _ hj hj2;refine V_ (XE (U_ (U_ (XJ rfl (U_ (S_ rfl (W_ (X3 ?_ rfl rfl))))))) (by decide));refine XA ?_ rfl rfl e1;refine W_ (XA ?_ rfl rfl rfl);refine XR ?_ (by trivial);refine XE (U_ (U_ (XJ rfl (U_ (S_ rfl (W_ (X3 ?_ rfl rfl))))))) (by decide);refine XA ?_ rfl rfl e1;refine W_ (XA ?_ rfl rfl rfl);exact XR ⟨_,_,_,⟨pt.1,pt.2.1⟩,⟨pt.2.2.1,pt.2.2.2⟩,rfl⟩ (by trivial)
    ·exact XX ⟨_,_,_,⟨o1,o2⟩,⟨q1,q2⟩,rfl⟩
   ·exact XS rfl (XX ⟨_,_,_,⟨o1,o2⟩,⟨q1,q2⟩,rfl⟩)
  rintro ρ ⟨y4,v,o,⟨v1,v2⟩,⟨q1,q2⟩,rfl⟩;unfold RE;refine V_ (Yi (Yb (m_ (S_ rfl (m_ (XU (m_ (S_ rfl (m_ (S_ rfl (T_ (Yy ?_ rfl))))))))))) rfl);refine m_ (XU (m_ (S_ rfl (m_ (S_ rfl (T_ (Yz ?_ rfl)))))));refine T_ (XT ?_ rfl rfl (by exact Ud rfl));refine XD (kI ?_ rfl (by trivial) (by rw[Dk];unfold SZ;lia));refine XE (U_ (U_ (S_ rfl (W_ (X5 ?_ rfl rfl))))) (by decide);have w1':(0:Int)<(if wide=0 then 1 else if wide=1 then 3 else 1000)/\(if wide=0 then 1 else if wide=1 then 3 else 1000:Int)<=1000:=by split;decide;split<;>decide
  refine U_ ?_;refine YB (U_ (Yc (m_ (W_ (m_ (W_ (m_ (W_ (T_ (XT ?_ rfl rfl (by exact Ud rfl))))))))))) rfl;refine S_ rfl (XA ?_ rfl rfl (ix3 1 3 1000 wide k1 k2));refine cj.mk (mj ?_ rfl rfl w1'.1 (by unfold jA;lia));have hm0:=dF y4 (if wide=0 then 1 else if wide=1 then 3 else 1000) (by lia);refine U_ (Yc (m_ (W_ (m_ (W_ (m_ (U_ (W_ (W_ (YJ (z:=10000000000000000000000000) ?_ rfl rfl (by decide) (by decide)))))))))));refine T_ (XT ?_ rfl rfl (by exact Ud rfl));refine S_ rfl (XA ?_ rfl rfl (ix3 1 1 10000000000000000000000000 wide k1 k2));refine YN ?_ rfl rfl (.inl (by unfold B64;lia));refine X5 ?_ rfl rfl;refine XR ?_ (by trivial)
  generalize hf:(if wide=0 then 1 else if wide=1 then 1 else 10000000000000000000000000:Int)=f
  have hf0:0<=f/\f<=10000000000000000000000000:=by rw[<- hf];split;decide;split<;>decide
  generalize (y4 % if wide=0 then 1 else if wide=1 then 3 else 1000:Int)=t at hm0 ⊢
  have tn:=Int.mul_nonneg hm0.1 hf0.1;have t9:t<=999:=by lia
  have tm:t*f<=999*10000000000000000000000000:=Int.mul_le_mul t9 hf0.2 hf0.1 (by decide);refine⟨y4 / (if wide=0 then 1 else if wide=1 then 3 else 1000),mo+1+t*f,r++[⟨mo,(if o<v then o else v),(if o>v then o else v)⟩],.sh (.int (0+(i:Nat))),.sh (.int v),.sh (.int o),?_,?_,?_,by simp[hl],?_,by lia,?_⟩
  ·unfold az;rw[Tv];rfl
  ·rw[Tg,UR,Wy,<- hpp,hi]
  ·refine Good.snoc (hi:=mo) hg hu hm rfl ?_ (IB v o) ?_
   ·show 0<=(if o<v then o else v);split<;>lia
   ·show (if o>v then o else v)<n;split<;>lia
  ·intro u hu';rcases Tp.mp hu' with h | h
   ·have:=hu u h;lia
   ·rw[Th.mp h];show mo<_;lia
  ·rw[Tg,UR];have:((p.length+1:Nat):Int)*Z28=(p.length:Int)*Z28+Z28:=by unfold Z28;lia
   rw[this];unfold Z28 at *
   lia
 ·rintro ρ ⟨x,mo,r,c7,c8,c9,rfl,hpp,hg,hl,hu,hm,hb⟩;unfold RE;refine XQ (XJ rfl (X0 ?_ rfl));rw[Tu]at hl hb;refine⟨_,rfl,r,x,rfl,rfl,hg,by lia,fun t ht=>?_⟩;have:=hu t ht;unfold Z28 at hb;unfold Z30
  lia
noncomputable def cg(r:List Tie)(S:Int->Bool):Nat:=(r.filter (over S)).length
theorem Ac(S:Int->Bool):∀{w:List Step} {x y:Int},Way (gq r) x w y->S x=true->S y=false->∃s∈w,s.1∈(r.filter (over S)).map (·.m)
 |[],x,y,h,h1,h2=>by cases h;rw[h1]at h2;cases h2
 |s::w,x,y,h,h1,h2=>by
  cases hs:S s.2 with
  |true=>obtain⟨u,hu,k⟩:=Ac S h.2 hs h2;exact⟨u,gc _ hu,k⟩
  |false=>
   obtain⟨t,ht,hm,_,he⟩:=h.1;refine⟨s,gV,Td.mpr ⟨t,T3.mpr ⟨ht,?_⟩,hm⟩⟩;unfold over;rcases he with⟨e1,e2⟩ | ⟨e1,e2⟩
   ·rw[e1,e2,h1,hs];rfl
   ·rw[e1,e2,h1,hs];rfl
theorem picks(S:Int->Bool)(ha:S a=true)(hb:S b=false):∀(ws:List (List Step)),(∀w∈ws,Way (gq r) a w b)->(ws.map mso).flatten.Nodup ->
  ∃ps:List Int,ps.length=ws.length/\ps.Nodup/\∀m∈ps,m∈(ws.map mso).flatten/\m∈(r.filter (over S)).map (·.m)
 |[],_,_=>⟨[],rfl,by simp,by simp⟩
 |w::ws,h,nd=>by
  rw[eg,Uy]at nd;obtain⟨n1,n2,n3⟩:=UE.mp nd;obtain⟨ps,p1,p2,p3⟩:=picks S ha hb ws (fun v hv=>h v (gc _ hv)) n2;obtain⟨s,hs,k⟩:=Ac S (h w gV) ha hb;have hsm:s.1∈mso w:=Td.mpr ⟨s,hs,rfl⟩;refine⟨s.1::ps,by simp[p1],TH.mpr ⟨fun z=>n3 _ hsm _ (p3 _ z).1 rfl,p2⟩,fun m hm=>?_⟩;rw[eg,Uy];rcases S4.mp hm with rfl | hm
  ·exact⟨T6 _ hsm,k⟩
  ·exact⟨TF _ (p3 m hm).1,(p3 m hm).2⟩
theorem Sv{ws:List (List Step)}(W:Ey r a b ws)(ha:S a=true)(hb:S b=false):ws.length<=cg r S:=by
 obtain⟨ps,p1,p2,p3⟩:=picks S ha hb ws (fun w hw=>(W.way w hw).way) W.nd;have:=eW ps _ p2 fun m hm=>(p3 m hm).2;rw[Dk]at this;unfold cg
 lia
theorem BG(r:List Tie)(S:Int->Bool):cg r (fun x=>!S x)=cg r S:=by
 unfold cg
 congr 1
 apply Uk;intro t _;unfold over;dsimp only;cases S t.a<;>cases S t.b<;>rfl
theorem BH(p:Tie->Bool)(S:Int->Bool):cg (r.filter p) S<=cg r S:=by
 unfold cg;rw[Uw];have:(r.filter fun t=>over S t&&p t)=(r.filter (over S)).filter p:=by rw[Uw];apply Uk;intro t _;cases over S t<;>cases p t<;>rfl
 rw[this];exact UA _ _
theorem Ad{x y:Tie}(h:x.m=y.m/\x.a=y.a/\x.b=y.b):x=y:=by cases x;cases y;obtain⟨h1,h2,h3⟩:=h;dsimp only at h1 h2 h3;rw[h1,h2,h3]
instance Sw:DecidableEq Tie:=fun x y=>decidable_of_iff (x.m=y.m/\x.a=y.a/\x.b=y.b) ⟨Ad,fun h=>by rw[h];exact⟨rfl,rfl,rfl⟩⟩
noncomputable def outF(r:List Tie)(t:Tie):List Tie:=r.filter fun u=>decide (u≠t)
structure Kept(r:List Tie)(k:Nat)(p K:List Tie):Prop where
 sub:K.Sublist r
 low:∀S:Int->Bool,min k (cg r S)<=cg K S
 cut:∀t∈p,t∈K->∃S:Int->Bool,S t.a=true/\S t.b=false/\cg (outF K t) S<k
theorem Kept.start(r:List Tie)(k:Nat):Kept r k [] r:=⟨W5.refl _,fun S=>Nat.min_le_right _ _,fun t ht=>by cases ht⟩
theorem nU{K:List Tie}(h:over S t=false):cg (outF K t) S=cg K S:=by
 unfold cg outF;rw[Uw]
 congr 1
 apply Uk;intro u _;by_cases e:u=t
 ·subst e;simp[h]
 ·simp[e]
theorem Kept.drop{p K:List Tie}(h:Kept r k p K)(t:Tie)(hh:t.a=t.b\/∀S:Int->Bool,S t.a=true->S t.b=false->k<=cg (outF K t) S):Kept r k (p++[t]) (outF K t):=by
 refine⟨W5.trans U5 h.sub,fun S=>?_,fun u hu hK=>?_⟩
 ·cases ho:over S t with
  |false=>rw[nU ho];exact h.low S
  |true=>
   unfold over at ho;rcases hh with hh | hh
   ·rw[hh]at ho;simp at ho
   ·cases ha:S t.a with
    |true=>
     have hb:S t.b=false:=by rw[ha]at ho;cases hb:S t.b<;>simp_all
     have:=hh S ha hb;lia
    |false=>
     have hb:S t.b=true:=by rw[ha]at ho;cases hb:S t.b<;>simp_all
     have:=hh (fun x=>!S x) (by simp[ha]) (by simp[hb]);rw[BG]at this
     lia
 ·obtain⟨k1,k2⟩:=T3.mp hK;have k2:=of_decide_eq_true k2;rcases Tp.mp hu with hu | hu
  ·obtain⟨S,s1,s2,s3⟩:=h.cut u hu k1;refine⟨S,s1,s2,US ?_ s3⟩;have:outF (outF K t) u=(outF K u).filter fun x=>decide (x≠t):=by
    unfold outF;rw[Uw,Uw];apply Uk;intro x _;rw[WS]
   rw[this];exact BH _ S
  ·exact absurd (Th.mp hu) k2
theorem Kept.keep{p K:List Tie}(h:Kept r k p K)(t:Tie)(hh:∃S:Int->Bool,S t.a=true/\S t.b=false/\cg (outF K t) S<k):Kept r k (p++[t]) K:=
 ⟨h.sub,h.low,fun u hu hK=>by
  rcases Tp.mp hu with hu | hu
  ·exact h.cut u hu hK
  ·rw[Th.mp hu];exact hh⟩
theorem yr(u t:Tie):eqD (aL u) (aL t)=decide (u=t):=by rw[Xa,decide_eq_true_iff];unfold aL;simp[eqD,jy];exact⟨Ad,fun h=>by rw[h];exact⟨rfl,rfl,rfl⟩⟩
theorem M6(t:Tie)(K:List Tie):inD (aL t) (K.map aL)=decide (t∈K):=by
 induction K with
 |nil=>rfl
 |cons u K ih=>
  unfold inD at ih ⊢;rw[eg,U4,ih];by_cases h:t=u
  ·subst h;simp[yr]
  ·have h':¬u=t:=fun z=>h z.symm;simp[yr,h,h']
theorem IC(K:List Tie):(K.map aL).all (okD 7)=true:=by rw[List.all_map];exact Ug.mpr fun t _=>rfl
theorem Zw{u t:Tie}{Q:RV->Prop}(k:Q (.val (.bl (decide (u≠t)))))(ho:o=some (aL u))(hp:p=some (aL t)):Wg2 gNe o p Q:=
 ⟨_,_,_,ho,hp,rfl,by rw[yr,<- decide_not];exact k⟩
theorem Zv{K:List Tie}{Q:RV->Prop}(k:Q (.val (.bl (!decide (t∈K)))))(ho:o=some (aL t))(hp:p=some (az K)):Wg2 d_ o p Q:=
 ⟨_,_,_,ho,hp,by unfold az d_;dsimp only;rw[IC,M6];rfl,k⟩
theorem nV(r:List Tie)(hl:r.length<=1000)(t:Tie):rA [az r,aL t]=some (.new (az (outF r t))):=by
 apply XM;unfold rA
 (refine Dm.XG ?_ rfl rfl;and_intros)
 refine XQ ?_;refine Ys aL r (fun u=>decide (u≠t)) id aL (d:=az r) ?_ rfl rfl rfl (by decide) (by unfold SZ;lia) (fun u _=>?_) fun u _ _=>?_
 ·rw[UO];rfl
 ·exact XN (U_ (S_ rfl (S_ rfl (Zw (XF ⟨rfl,rfl⟩) rfl rfl))))
 ·exact S_ rfl (XD ⟨rfl,rfl⟩)
structure Fit(n:Nat)(r:List Tie):Prop where
 n40:n<=40
 pl:Pl n r
 nd:(r.map (·.m)).Nodup
 len:r.length<=1000
theorem Fit.sub{r K:List Tie}(h:Fit n r)(s:K.Sublist r):Fit n K:=⟨h.n40,fun t ht=>h.pl t (s.subset ht),h.nd.sublist (s.map _),Tq s.length_le h.len⟩
theorem Fit.out(h:Fit n r)(t:Tie):Fit n (outF r t):=h.sub U5
theorem qk(h:Fit n r)(a0:0<=a)(a1:a<n)(b0:0<=b)(b1:b<n)(k6:k<=6) :
  ∃c:Bool,Il [.int n,az r,.int a,.int b,.int k]=some (.val (.bl c))/\(c=true->∀S:Int->Bool,S a=true->S b=false->k<=cg r S)/\(c=false->∃S:Int->Bool,S a=true/\S b=false/\cg r S<k):=by
 obtain⟨ws,o,e,A⟩:=eu n h.n40 r h.pl h.nd h.len a b a0 a1 b0 b1 k (by lia) (by lia);refine⟨isN (gU o),?_,fun z S s1 s2=>?_,fun z=>?_⟩
 ·apply XM;unfold Il
  (refine Dm.XG ?_ rfl rfl;and_intros)
  refine XQ (U_ (U_ (XH (m_ (S_ rfl (m_ (S_ rfl (m_ (S_ rfl (m_ (S_ rfl (m_ (S_ rfl (T_ (XC e ?_ rfl rfl rfl rfl)))))))))))))));refine W_ (XA ?_ rfl rfl rfl);exact W_ (YZ rfl rfl rfl)
 ·cases o with
  |none=>
   have:=A.all rfl;have:=Sv A.ways s1 s2
   lia
  |some S=>cases z
 ·cases o with
  |none=>cases z
  |some S=>
   obtain⟨⟨_,_,h1,h2⟩,h3,h4⟩:=A.side S rfl;refine⟨fun x=>decide (x∈S),decide_eq_true h1,decide_eq_false h2,?_⟩;have:cg r (fun x=>decide (x∈S))=(bB r S).length:=by unfold bB;rw[Dk];rfl
   lia
noncomputable def rH(r K:List Tie):RV:=if r=[] then .new (az K) else .val (az K)
theorem tE(aH aW:Nat)(h:Fit n r)(k6:k<=6) :
  ∃K,vj aH aW [.int n,az r,.int k,.fn aH]=some (rH r K)/\Kept r k r K:=by
 suffices q:Wr (vj aH aW [.int n,az r,.int k,.fn aH]) fun v=>∃K,v=rH r K/\Kept r k r K by obtain⟨v,h1,K,rfl,h2⟩:=q;exact⟨K,h1,h2⟩
 unfold vj
 (refine Dm.XG ?_ rfl rfl;and_intros)
 refine V_ (XE (XU (m_ (S_ rfl (T_ (YK (xs:=r.map aL) ?_ rfl))))) (by decide));refine XI ?_ (by trivial);refine V_ (XY (Ym (S_ rfl (XD ⟨r.map aL,rfl,?_⟩))));refine XZ aL _ _ r _ _ _ _ _ (fun p q ρ=>∃(K:List Tie) (c4 c5 c6:Cell),ρ=[.sh (.int n),.sh (az r),.sh (.int k),.sh (.fn aH),c4,c5,c6]/\Kept r k p K/\((p=[]/\c4=.ow (az K))\/(p≠[]/\c4=.sh (az K))))
  ⟨r,_,_,_,rfl,Kept.start r k,.inl ⟨rfl,rfl⟩⟩ ?_ ?_
 ·rintro p t q ρ e ⟨K,c4,c5,c6,rfl,hK,hc⟩;have ht:t∈r:=by rw[e];simp
  have hp:=h.pl t ht;have fK:=h.sub hK.sub;refine Dm.bQ rfl (by trivial) ?_;unfold Eg;have ew:=nV K fK.len t;have first:∀{N:Env->Prop} {R:RV->Env->Prop} {B C:Env->Prop},N [.sh (.int n),.sh (az r),.sh (.int k),.sh (.fn aH),.sh (az K),.sh (aL t),.ow (az (outF K t))] ->
    Ws (sA 6 (eF rA [(eV 4),(eV 5)])) [.sh (.int n),.sh (az r),.sh (.int k),.sh (.fn aH),c4,.sh (aL t),c6] N R B C:=fun kN=>by
   rcases hc with⟨_,rfl⟩ | ⟨_,rfl⟩
   ·refine XE (XH (m_ (XJ rfl (m_ (S_ rfl (T_ (XC ew ?_ rfl rfl rfl rfl))))))) (by decide);exact XI kN (by trivial)
   ·refine XE (XH (m_ (S_ rfl (m_ (S_ rfl (T_ (XC ew ?_ rfl rfl rfl rfl))))))) (by decide);exact XI kN (by trivial)
  refine V_ (first ?_);have gone:(t.a=t.b\/∀S:Int->Bool,S t.a=true->S t.b=false->k<=cg (outF K t) S)->∀{R:RV->Env->Prop} {B C:Env->Prop},
    Ws (sA 4 (eV 6)) [.sh (.int n),.sh (az r),.sh (.int k),.sh (.fn aH),.sh (az K),.sh (aL t),.ow (az (outF K t))]
     (fun ρ=>∃(K:List Tie) (c4 c5 c6:Cell),ρ=[.sh (.int n),.sh (az r),.sh (.int k),.sh (.fn aH),c4,c5,c6]/\Kept r k (p++[t]) K/\((p++[t]=[]/\c4=.ow (az K))\/(p++[t]≠[]/\c4=.sh (az K)))) R B C:=fun hh=>by
   refine XE (XJ rfl (Y3 ?_ rfl (by trivial))) (by decide);exact⟨outF K t,_,_,_,rfl,hK.drop t hh,.inr ⟨by simp,rfl⟩⟩
  refine XW (Yu (XN (U_ (U_ (S_ rfl (W_ (XA ?_ rfl rfl rfl)))))));refine U_ (S_ rfl (W_ (XA ?_ rfl rfl rfl)));refine X_ (XF ?_) rfl rfl;refine X4 (fun M7=>?_) fun M7=>?_
  ·refine Yh rfl ?_;exact gone (.inl M7)
  ·obtain⟨c,eh,h1,h2⟩:=qk (h.sub (W5.trans (U5 (p:=fun u=>decide (u≠t))) hK.sub)) hp.1 hp.2.1 hp.2.2.1 hp.2.2.2 k6;refine XN (Zg rfl (XH (m_ (S_ rfl (m_ (XJ rfl (m_ (U_ (S_ rfl (W_ (XA ?_ rfl rfl rfl)))))))))));refine m_ (U_ (S_ rfl (W_ (XA ?_ rfl rfl rfl))));refine m_ (S_ rfl (T_ (XO eh ?_ rfl rfl)));refine XF ?_;cases c with
   |true=>exact Yh rfl (gone (.inr (h1 rfl)))
   |false=>exact XS rfl (XX ⟨K,_,_,_,rfl,hK.keep t (h2 rfl),.inr ⟨by simp,rfl⟩⟩)
 ·rintro ρ ⟨K,c4,c5,c6,rfl,hK,hc⟩;rcases hc with⟨z,rfl⟩ | ⟨z,rfl⟩
  ·refine XQ (XJ rfl (X0 ⟨K,?_,hK⟩ rfl));unfold rH;rw[if_pos z]
  ·refine XQ (S_ rfl ⟨K,?_,hK⟩);unfold rH;rw[if_neg z]
theorem EC(i:Int):Im [.int i]=some (.val (.bl true)):=by
 apply XM;unfold Im
 (refine Dm.XG ?_ rfl rfl;and_intros)
 refine XQ (Zb (Yt (S_ rfl (Yp ?_ rfl rfl))));refine XF (Zf (Zc (Yt (S_ rfl (Yp ?_ rfl rfl)))));exact XF rfl
theorem eX(i lo hi:Int)(h0:lo<=i)(h1:i<=hi):yk [.int i,.int lo,.int hi]=some (.val (.bl true)):=by unfold yk;simp[fn,sR,lO,eF,eAs,eV,pks,pk,EC,RV.bG,RV.dat,dN,mR,gLe,h0,h1]
theorem gx(k:Int)(h0:1<=k)(h1:k<=6):vg [.int k]=some (.val .non):=by
 have e:nM [.int k]=some (.val (.bl true)):=by
  apply XM;unfold nM
  (refine Dm.XG ?_ rfl rfl;and_intros)
  refine XQ (XH (m_ (S_ rfl (m_ (W_ (m_ (W_ (T_ (XO (eX k 1 6 h0 h1) ?_ rfl rfl)))))))));rfl
 apply XM;unfold vg
 (refine Dm.XG ?_ rfl rfl;and_intros)
 refine XW (Yj (XN (XH (m_ (S_ rfl (T_ (XO e ?_ rfl rfl)))))));exact XF (Yl (XX rfl))
theorem yt(k:Nat)(k6:k<=6):∃d,rB [.int k]=some (.new (.lst d)):=by
 suffices q:Wr (rB [.int k]) fun v=>∃d,v=.new (.lst d) by obtain⟨v,h1,d,rfl⟩:=q;exact⟨d,h1⟩
 unfold rB
 (refine Dm.XG ?_ rfl rfl;and_intros)
 refine XQ ?_;refine Yn (fun i:Nat=>Dat.int (0+(i:Nat))) (S3 k) (fun _=>Dat.lst []) id (ρ1:=[.sh (.int k)]) ?_ ?_ rfl (by decide) (by rw[Tu];unfold SZ;lia) fun i _=>?_
 ·exact⟨_,rfl⟩
 ·apply Yq;refine Yx (S_ rfl (cj.mk ⟨⟨?_,rfl⟩,by unfold BIG;lia,by unfold BIG;lia⟩));rw[VD];rfl
 ·exact Yc (T_ (XT (X8 ⟨rfl,rfl⟩) rfl rfl (by decide)))
theorem lW(h:Fit n r)(a0:0<=a)(a1:a<n)(b0:0<=b)(b1:b<n)(k6:k<=6) :
  ∃d,vm [.int n,az r,.int a,.int b,.int k]=some (.val d)/\dN d=true:=by
 obtain⟨ws,o,e,A⟩:=eu n h.n40 r h.pl h.nd h.len a b a0 a1 b0 b1 k (by lia) (by lia);refine⟨.lst (ws.map msD),?_,rfl⟩;apply XM;unfold vm
 (refine Dm.XG ?_ rfl rfl;and_intros)
 refine XQ (U_ (XH (m_ (S_ rfl (m_ (S_ rfl (m_ (S_ rfl (m_ (S_ rfl (m_ (S_ rfl (T_ (XC e ?_ rfl rfl rfl rfl))))))))))))));exact W_ (XA rfl rfl rfl rfl)
theorem vJ(h:Fit n r)(ht:t∈r)(k6:k<=6) :
  ∃d,ly [.int n,az r,aL t,.int k]=some (.val d):=by
 have hp:=h.pl t ht;have h':=h.out t;obtain⟨ws,o,e,A⟩:=eu n h'.n40 _ h'.pl h'.nd h'.len t.a t.b hp.1 hp.2.1 hp.2.2.1 hp.2.2.2 k (by lia) (by lia);refine⟨gU o,?_⟩;apply XM;unfold ly
 (refine Dm.XG ?_ rfl rfl;and_intros)
 refine XQ (U_ (XH (m_ (S_ rfl (m_ (XH (m_ (S_ rfl (m_ (S_ rfl (T_ (XC (nV r h.len t) ?_ rfl rfl rfl rfl))))))))))));refine m_ (U_ (S_ rfl (W_ (XA ?_ rfl rfl rfl))));refine m_ (U_ (S_ rfl (W_ (XA ?_ rfl rfl rfl))));refine m_ (S_ rfl (T_ (XC e ?_ rfl rfl rfl rfl)));exact W_ (XA rfl rfl rfl rfl)
noncomputable def got(o:Option RV):Dat:=(o.map RV.dat).getD .non
theorem vK(aH aW:Nat){r K:List Tie}(h:Fit n r)(hK:Fit n K)(k6:k<=6) :
  ∃ds,vn aH aW [.int n,az r,az K,.int k,.fn aW]=some (.new (.lst ds)):=by
 suffices q:Wr (vn aH aW [.int n,az r,az K,.int k,.fn aW]) fun v=>∃d,v=.new (.lst d) by obtain⟨v,h1,d,rfl⟩:=q;exact⟨d,h1⟩
 unfold vn
 (refine Dm.XG ?_ rfl rfl;and_intros)
 refine V_ (XE (Ys aL r (fun t=>!decide (t∈K)) id aL (d:=az r) ?_ rfl rfl rfl (by decide) (by have:=h.len;unfold SZ;lia) (fun u _=>?_) fun u _ _=>?_) (by decide))
 ·refine XI ?_ (by trivial);rw[UO];refine XQ ?_;have hl:(r.filter fun t=>!decide (t∈K)).length<=SZ:=Tq (UA _ _) (by have:=h.len;unfold SZ;lia);refine YO aL (r.filter fun t=>!decide (t∈K)) (fun t=>if t.a=t.b then got (rB [.int k]) else got (vm [.int n,az K,.int t.a,.int t.b,.int k])) id ?_ rfl (by trivial) rfl (by decide) hl fun t ht=>?_
  ·exact⟨_,rfl⟩
  ·have hp:=h.pl t (T3.mp ht).1;refine Y6 (XN (U_ (U_ (S_ rfl (W_ (XA ?_ rfl rfl rfl))))));refine U_ (S_ rfl (W_ (XA ?_ rfl rfl rfl)));refine X_ (XF ?_) rfl rfl;refine X4 (fun M7=>?_) fun M7=>?_
   ·obtain⟨d,e⟩:=yt k k6;refine XH (m_ (S_ rfl (T_ (XC e ?_ rfl rfl rfl rfl))));refine X8 ⟨?_,rfl⟩;rw[if_pos M7,e];rfl
   ·obtain⟨d,e',hb⟩:=lW hK hp.1 hp.2.1 hp.2.2.1 hp.2.2.2 k6;refine Zg rfl (XH (m_ (S_ rfl (m_ (S_ rfl (m_ (U_ (S_ rfl (W_ (XA ?_ rfl rfl rfl))))))))));refine m_ (U_ (S_ rfl (W_ (XA ?_ rfl rfl rfl))));refine m_ (S_ rfl (T_ (XC e' ?_ rfl hb rfl rfl)));refine XD ⟨?_,rfl⟩;rw[if_neg M7,e'];rfl
 ·exact XN (U_ (S_ rfl (S_ rfl (Zv (XF ⟨rfl,rfl⟩) rfl rfl))))
 ·exact S_ rfl (XD ⟨rfl,rfl⟩)
noncomputable def msI(K:List Tie):Dat:=.lst ((K.map (·.m)).map Dat.int)
theorem ED(aH aW:Nat)(h:Fit n r)(k1:1<=k)(k6:k<=6) :
  ∃K d1 d2,zV aH aW [.int n,az r,.int k]=some (.val (.tup [msI K,d1,d2]))/\Kept r k r K:=by
 obtain⟨K,eK,hK⟩:=tE aH aW h k6;have fK:=h.sub hK.sub;obtain⟨ds,ew⟩:=vK aH aW h fK k6;refine⟨K,.lst ds,.lst (K.map fun t=>got (ly [.int n,az K,aL t,.int k])),?_,hK⟩;have hl:K.length<=SZ:=by have:=fK.len;unfold SZ;lia
 apply XM;unfold zV
 (refine Dm.XG ?_ rfl rfl;and_intros)
 refine V_ (Yk (XH (m_ (S_ rfl (T_ (XO (gx k (by lia) (by lia)) ?_ rfl rfl))))));by_cases hr:r=[]
 ·have hK0:K=[]:=by
   have:=hK.sub.length_le;rw[hr]at this;exact Vz (by simpa using this)
  unfold rH at eK;rw[if_pos hr]at eK;refine V_ (XE (XH (m_ (S_ rfl (m_ (S_ rfl (m_ (S_ rfl (m_ (W_ (T_ (XC eK ?_ rfl rfl rfl rfl))))))))))) (by decide));refine XI ?_ (by trivial);refine V_ (XE (YO aL K (fun t=>got (ly [.int n,az K,aL t,.int k])) id ?_ rfl (by trivial) rfl (by decide) hl fun t ht=>?_) (by decide))
  ·refine XI ?_ (by trivial);refine XQ (Yb (m_ (YO aL K (·.m) Dat.int ?_ rfl (by trivial) rfl (by decide) hl fun t ht=>?_)))
   ·refine m_ (XH (m_ (S_ rfl (m_ (S_ rfl (m_ (XJ rfl (m_ (S_ rfl (m_ (W_ (T_ (XC ew ?_ rfl rfl rfl rfl)))))))))))));refine m_ (XJ rfl (T_ (XT ?_ rfl rfl (by exact Ud rfl))));rw[UO];rfl
   ·exact U_ (S_ rfl (W_ (XA (XD ⟨rfl,rfl⟩) rfl rfl rfl)))
  ·rw[hK0]at ht;cases ht
 ·unfold rH at eK;rw[if_neg hr]at eK;refine V_ (XE (XH (m_ (S_ rfl (m_ (S_ rfl (m_ (S_ rfl (m_ (W_ (T_ (XC eK ?_ rfl rfl rfl rfl))))))))))) (by decide));refine XR ?_ (by trivial);refine V_ (XE (Ye aL K (fun t=>got (ly [.int n,az K,aL t,.int k])) id (d:=az K) ?_ rfl rfl rfl (by decide) hl fun t ht=>?_) (by decide))
  ·refine XI ?_ (by trivial);refine XQ (Yb (m_ (Ye aL K (·.m) Dat.int (d:=az K) ?_ rfl rfl rfl (by decide) hl fun t ht=>?_)))
   ·refine m_ (XH (m_ (S_ rfl (m_ (S_ rfl (m_ (S_ rfl (m_ (S_ rfl (m_ (W_ (T_ (XC ew ?_ rfl rfl rfl rfl)))))))))))));refine m_ (XJ rfl (T_ (XT ?_ rfl rfl (by exact Ud rfl))));rw[UO];rfl
   ·exact U_ (S_ rfl (W_ (XA (XD ⟨rfl,rfl⟩) rfl rfl rfl)))
  ·obtain⟨d,e⟩:=vJ fK ht k6;have go:∀{Q:Val->Env->Prop} {ρ:Env},Q (.val d) ρ->∀xs,pks ρ xs=some [.int n,az K,aL t,.int k]->tks ρ xs=some ([.int n,az K,aL t,.int k],ρ)->WF ly ρ xs Q:=fun {Q ρ} q xs h1 h2=>by
    by_cases hb:dN d=true
    ·exact XC e q h1 hb h2 rfl
    ·exact XO e q h1 (by show dN d=false;simpa using hb)
   refine XH (m_ (S_ rfl (m_ (S_ rfl (m_ (S_ rfl (m_ (S_ rfl (T_ (go ?_ _ rfl rfl))))))))));refine XD ⟨?_,rfl⟩;rw[e];rfl
theorem EE(r:List Tie)(hl:r.length<=1000)(S:List Int):vz [az r,tupI S]=some (.new (.lst ((bB r S).map Dat.int))):=by
 apply XM;unfold vz
 (refine Dm.XG ?_ rfl rfl;and_intros)
 refine XQ ?_;refine Zi aL r (ovr S) (·.m) Dat.int (fun t=>.int t.m) (fun t=>.int t.a) (fun t=>.int t.b) (fun _=>rfl) (d:=az r) ?_ rfl rfl rfl (by decide) (by unfold SZ;lia) (fun u _=>?_) fun u _ _=>?_
 ·rfl
 ·refine XN (U_ (U_ (S_ rfl (S_ rfl (Yw (xs:=S) ?_ rfl rfl)))));refine U_ (S_ rfl (S_ rfl (Yw (xs:=S) ?_ rfl rfl)));exact YH (XF ⟨rfl,rfl⟩) rfl rfl
 ·exact S_ rfl (XD ⟨rfl,rfl⟩)
noncomputable def lX(n x:Nat):List Int:=((S3 (n-1)).filter fun p=>decide (x / 2 ^ p % 2=1)).map fun p:Nat=>1+(p:Int)
theorem EF(n:Nat)(n1:1<=n)(n10:n<=10):vA [.int n]=some (.new (.lst (((S3 (2 ^ (n-1)-1)).map fun x=>lX n (1+x)).map tupI))):=by
 apply XM;unfold vA
 (refine Dm.XG ?_ rfl rfl;and_intros)
 refine V_ (XE (Yc (T_ (XT ?_ rfl rfl (by decide)))) (by decide));refine XI ?_ (by trivial);have p1:(1:Int)*2 ^ ((n:Int)-1).toNat=((2 ^ (n-1):Nat):Int):=by
  have:((n:Int)-1).toNat=n-1:=by lia
  rw[this,Int.one_mul];norm_cast
 have p2:2 ^ (n-1)<=512:=Tq (WG (show 2>0 by decide) (show n-1<=9 by lia)) (by decide);have p3:0<2 ^ (n-1):=Nat.pow_pos (by decide);refine V_ (XY (Yr (W_ (cj.mk (U_ (W_ (U_ (S_ rfl (W_ (X3 ?_ rfl rfl))))))))));refine⟨_,_,_,rfl,rfl,(show Ba (.int 1) (.int ((n:Int)-1))=some (.val (.int ((2 ^ (n-1):Nat):Int))) by unfold Ba;dsimp only;rw[if_pos (by lia),p1]),?_⟩;refine cj.mk ⟨?_,by unfold BIG;lia⟩;have el:(((2 ^ (n-1):Nat):Int)-1).toNat=2 ^ (n-1)-1:=by lia
 rw[el];refine XZ (fun i:Nat=>Dat.int (1+(i:Nat))) _ _ (S3 (2 ^ (n-1)-1)) _ _ _ _ _ (fun p q ρ=>∃c2:Cell,ρ=[.sh (.int n),.ow (.lst ((p.map fun x=>lX n (1+x)).map tupI)),c2]) ⟨_,rfl⟩ ?_ ?_
 ·rintro p i q ρ e ⟨c2,rfl⟩;have hlp:p.length<SZ:=by
   have:(S3 (2 ^ (n-1)-1)).length=p.length+(q.length+1):=by rw[e];simp
   rw[Tu]at this;unfold SZ;lia
  refine Dm.bQ rfl (by trivial) ?_;unfold Eo;refine Yi (XU (m_ (Y7 (fun p:Nat=>Dat.int (1+(p:Nat))) (S3 (n-1)) (fun p=>decide ((1+i) / 2 ^ p % 2=1)) (fun p:Nat=>1+(p:Int)) Dat.int (fun j=>[.sh (.int n),.ow (.lst ((p.map fun x=>lX n (1+x)).map tupI)),.sh (.int (1+(i:Nat))),.sh (.int (1+(j:Nat)))]) (ρ1:=[.sh (.int n),.ow (.lst ((p.map fun x=>lX n (1+x)).map tupI)),.sh (.int (1+(i:Nat)))]) ?_ ?_ (fun _=>rfl) (fun _ _=>rfl) (fun _=>rfl) (by rw[Tu];unfold SZ;lia) (fun p hp=>?_) fun p _ _=>?_))) rfl
  ·refine T_ (YY ?_ rfl);refine XD (kI ?_ rfl (by trivial) (by simpa using hlp));refine⟨.sh (.int (1+(i:Nat))),?_⟩;rw[Tv,Tv];rfl
  ·apply Yq;refine Yr (W_ (cj.mk (S_ rfl (cj.mk ⟨⟨?_,rfl⟩,by unfold BIG;lia⟩))));have:((n:Int)-1).toNat=n-1:=by lia
   rw[this];rfl
  ·refine XN (U_ (U_ (U_ (S_ rfl (U_ (S_ rfl (W_ (X3 ?_ rfl rfl))))))));refine Zo ?_ rfl rfl (by lia);refine W_ (Zu ?_ rfl rfl);refine W_ (X_ (XF ⟨?_,rfl⟩) rfl rfl);have:((1:Int)+(p:Nat)-1).toNat=p:=by lia
   rw[this];apply decide_eq_decide.mpr;have:((1:Int)+((i:Nat):Int)) / 2 ^ p % 2=(((1+i) / 2 ^ p % 2:Nat):Int):=by norm_cast
   rw[this]
   lia
  ·exact S_ rfl (XD ⟨rfl,rfl⟩)
 ·rintro ρ ⟨c2,rfl⟩;exact XQ (XJ rfl (X0 rfl rfl))
theorem rJ(r:List Tie)(L:List Int):(bB r L).length=cg r fun q=>decide (q∈L):=by unfold bB;rw[Dk];rfl
theorem yu{r K:List Tie}(s:K.Sublist r):(r.map (·.m)).Nodup->r.filter (fun t=>decide (t.m∈K.map (·.m)))=K:=by
 induction s with
 |slnil=>intro _;rfl
 |cons a s ih=>rename_i K' r';intro nd;rw[eg,TH]at nd;rw[Ur,ih nd.2];simp only[decide_eq_true_iff];exact fun z=>nd.1 ((s.map (·.m)).subset z)
 |cons_cons a s ih=>
  rename_i K' r';intro nd;rw[eg,TH]at nd;rw[Us (by simp)]
  congr 1
  conv=>rhs;rw[<- ih nd.2]
  apply Uk;intro t ht;apply decide_eq_decide.mpr;rw[eg,S4];constructor
  ·rintro(e | e)
   ·exact absurd (Td.mpr ⟨t,ht,e⟩) nd.1
   ·exact e
  ·exact .inr
noncomputable def mgf(f:Int->Int)(a b:Int):Int->Int:=fun x=>if f x=f b then f a else f x
inductive Con(ts:List Tie):Int->Int->Prop
 |refl (x:Int):Con ts x x
 |tie (t:Tie):t∈ts->Con ts t.a t.b
 |symm {x y:Int}:Con ts x y->Con ts y x
 |trans {x y z:Int}:Con ts x y->Con ts y z->Con ts x z
theorem Con.mono{ts us:List Tie}(h:∀t∈ts,t∈us)(c:Con ts x y):Con us x y:=by
 induction c with
 |refl x=>exact .refl x
 |tie t m=>exact .tie t (h t m)
 |symm _ ih=>exact .symm ih
 |trans _ _ i1 i2=>exact .trans i1 i2
def Tells(f:Int->Int)(ts:List Tie):Prop:=∀x y,f x=f y↔Con ts x y
theorem Con.nil(c:Con [] x y):x=y:=by
 induction c with
 |refl x=>rfl
 |tie t m=>cases m
 |symm _ ih=>exact ih.symm
 |trans _ _ i1 i2=>exact i1.trans i2
theorem tells_nil:Tells (fun x=>x) []:=fun x y=>⟨fun h=>by cases h;exact .refl _,fun c=>c.nil⟩
theorem tells_mgf{f:Int->Int}(h:Tells f ts)(t:Tie)(a b:Int)(M7:(a=t.a/\b=t.b)\/(a=t.b/\b=t.a)):Tells (mgf f a b) (t::ts):=by
 have up:∀{x y},f x=f y->Con (t::ts) x y:=fun e=>Con.mono (fun u m=>gc _ m) ((h _ _).mp e);have ab:Con (t::ts) a b:=by
  rcases M7 with⟨rfl,rfl⟩ | ⟨rfl,rfl⟩
  ·exact .tie t gV
  ·exact .symm (.tie t gV)
 intro x y;unfold mgf;constructor
 ·intro e;by_cases hx:f x=f b
  ·rw[if_pos hx]at e;by_cases hy:f y=f b
   ·exact up (hx.trans hy.symm)
   ·rw[if_neg hy]at e;exact .trans (up hx) (.trans (.symm ab) (up e))
  ·rw[if_neg hx]at e;by_cases hy:f y=f b
   ·rw[if_pos hy]at e;exact .trans (up e) (.trans ab (.symm (up hy)))
   ·rw[if_neg hy]at e;exact up e
 ·intro c;have key:∀{x y:Int},Con (t::ts) x y->(if f x=f b then f a else f x)=(if f y=f b then f a else f y):=fun c=>by
   induction c with
   |refl x=>rfl
   |tie u m=>
    rcases S4.mp m with rfl | m
    ·rcases M7 with⟨rfl,rfl⟩ | ⟨rfl,rfl⟩
     ·rw[if_pos (rfl:f u.b=f u.b)];split
      ·rfl
      ·rfl
     ·rw[if_pos (rfl:f u.a=f u.a)];split
      ·rfl
      ·rfl
    ·have e:=(h u.a u.b).mpr (.tie u m);rw[e]
   |symm _ ih=>exact ih.symm
   |trans _ _ i1 i2=>exact i1.trans i2
  exact key c
noncomputable def lay(r:List Tie)(ms:List Int)(j:Int):List Tie:=((r.zip ms).filter fun p=>decide (p.2=j)).map (·.1)
theorem jT(t:Tie)(m:Int)(r:List Tie)(ms:List Int)(j:Int):lay (t::r) (m::ms) j=if m=j then t::lay r ms j else lay r ms j:=by unfold lay;rw[Um,TX];by_cases h:m=j<;>simp[h]
def vL(k:Int)(r:List Tie)(ms:List Int)(t:Tie)(m:Int):Prop:=
 (m=0/\∀j,1<=j->j<=k->Con (lay r ms j) t.a t.b)\/(1<=m/\m<=k/\¬Con (lay r ms m) t.a t.b/\∀j,1<=j->j<m->Con (lay r ms j) t.a t.b)
def bF(k:Int):List Tie->List Int->Prop
 |[],[]=>True
 |t::r,m::ms=>bF k r ms/\vL k r ms t m
 |_,_=>False
theorem vL.uniq{k:Int}{m m':Int}(h:vL k r ms t m)(h':vL k r ms t m'):m=m':=by
 rcases h with⟨rfl,h⟩ | ⟨h1,h2,h3,h4⟩
 ·rcases h' with⟨rfl,_⟩ | ⟨g1,g2,g3,_⟩
  ·rfl
  ·exact absurd (h m' g1 g2) g3
 ·rcases h' with⟨rfl,h'⟩ | ⟨g1,g2,g3,g4⟩
  ·exact absurd (h' m h1 h2) h3
  ·rcases Int.lt_trichotomy m m' with q | q | q
   ·exact absurd (g4 m h1 q) h3
   ·exact q
   ·exact absurd (h4 m' g1 q) g3
theorem bF.len{k:Int}:∀{r:List Tie} {ms:List Int},bF k r ms->ms.length=r.length
 |[],[],_=>rfl
 |_::r,_::ms,h=>by simp[bF.len h.1]
 |[],_::_,h=>h.elim
 |_::_,[],h=>h.elim
theorem bF.uniq{k:Int}:∀{r:List Tie} {ms ms':List Int},bF k r ms->bF k r ms'->ms=ms'
 |[],[],[],_,_=>rfl
 |_::r,m::ms,m'::ms',h,h'=>by have e:=bF.uniq h.1 h'.1;subst e;rw[h.2.uniq h'.2]
 |[],_::_,_,h,_=>h.elim
 |[],[],_::_,_,h=>h.elim
 |_::_,[],_,h,_=>h.elim
 |_::_,_::_,[],_,h=>h.elim
noncomputable def lab(n:Nat)(f:Int->Int):Dat:=.lst ((S3 n).map fun(i:Nat)=>Dat.int (f i))
theorem tF(n:Nat)(f:Int->Int)(x:Int)(h0:0<=x)(h1:x<n):gIx (lab n f) (.int x)=some (.val (.int (f x))):=by
 unfold lab gIx atI ixN;have hx:x.toNat<n:=by lia
 have hc:((x.toNat:Nat):Int)=x:=by lia
 simp only[Dk,Tu,h0,h1,if_true];simp[UK hx,hc]
theorem M8(n:Nat):Dat.lst (ups 0 n)=lab n fun x=>x:=by unfold ups lab;simp
theorem ID(n:Nat)(f:Int->Int):lab n f=.lst (((S3 n).map fun(i:Nat)=>f i).map Dat.int):=by unfold lab;rw[Uj];rfl
theorem BI(n:Nat)(hn:n<=10)(f:Int->Int)(a b:Int)(a0:0<=a)(a1:a<n)(b0:0<=b)(b1:b<n):zU [lab n f,.int a,.int b]=some (.new (lab n (mgf f a b))):=by
 apply XM;unfold zU
 (refine Dm.XG ?_ rfl rfl;and_intros)
 refine XQ (Ye (fun i:Nat=>Dat.int (f i)) (S3 n) (fun i:Nat=>mgf f a b i) Dat.int (d:=lab n f) ?_ rfl rfl rfl (by decide) (by rw[Tu];unfold SZ;lia) fun i _=>?_)
 ·rw[<- ID];rfl
 ·refine Y6 (XN (U_ (S_ rfl (U_ (S_ rfl (S_ rfl (XA ?_ rfl rfl (tF n f b b0 b1))))))));refine X_ (XF ⟨fun g=>?_,fun g=>?_⟩) rfl rfl
  ·refine U_ (S_ rfl (S_ rfl (XA (XD ⟨?_,rfl⟩) rfl rfl (tF n f a a0 a1))));unfold mgf;rw[if_pos (of_decide_eq_true g)]
  ·refine S_ rfl (XD ⟨?_,rfl⟩);unfold mgf;rw[if_neg (of_decide_eq_false g)]
theorem vM(sY:α->Dat)(d:α):∀(k:Nat) (l:List α),jK k (l.map sY)=(S3 l.length).map fun i=>.tup [.int ((k+i:Nat):Int),sY (l.getD i d)]
 |k,[]=>rfl
 |k,x::l=>by
  rw[eg,jK,vM sY d (k+1) l,TV,List.range_succ_eq_map,eg,Uj]
  congr 1
  apply UN;intro i _;show _=Dat.tup [.int ((k+(i+1):Nat):Int),sY ((x::l).getD (i+1) d)];rw[show k+1+i=k+(i+1) by lia];rfl
theorem vN{n k:Nat}{p q:List Nat}(e:S3 n=p++k::q):k=p.length/\k<n:=by
 have h1:(S3 n)[p.length]?=some k:=by rw[e,TZ (PU _),WE];rfl
 have h2:p.length<n:=by
  have:(S3 n).length=p.length+(q.length+1):=by rw[e];simp
  rw[Tu]at this;lia
 rw[UK h2]at h1;injection h1 with h1
 lia
def EG(gs:List (Int->Int))(a b:Int)(i:Nat)(num:Int):Prop:=
 (num=0/\∀(j:Nat) f,j<i->gs[j]?=some f->f a=f b)\/∃(j:Nat) (f:Int->Int),j<i/\gs[j]?=some f/\f a≠f b/\(∀(j':Nat) f',j'<j->gs[j']?=some f'->f' a=f' b)/\num=(j:Int)+1
theorem EH(n:Nat)(gs:List (Int->Int))(a b:Int)(a0:0<=a)(a1:a<n)(b0:0<=b)(b1:b<n):∃num:Int,vp [.lst (gs.map (lab n)),.int a,.int b]=some (.val (.int num))/\EG gs a b gs.length num:=by
 suffices hh:Wr (vp [.lst (gs.map (lab n)),.int a,.int b]) fun v=>∃num:Int,v=.val (.int num)/\EG gs a b gs.length num by obtain⟨v,h1,num,rfl,h2⟩:=hh;exact⟨num,h1,h2⟩
 unfold vp
 (refine Dm.XG ?_ rfl rfl;and_intros)
 refine V_ (XY (ZD (S_ rfl (XD ⟨_,rfl,?_⟩))));rw[vM (lab n) fun x=>x];refine XZ (fun i:Nat=>Dat.tup [.int ((0+i:Nat):Int),lab n (gs.getD i fun x=>x)]) _ _ (S3 gs.length) _ _ _ _ _ (fun p q ρ=>∃c3 c4:Cell,ρ=[.sh (.lst (gs.map (lab n))),.sh (.int a),.sh (.int b),c3,c4]/\∀(j:Nat) f,j<p.length->gs[j]?=some f->f a=f b) ⟨_,_,rfl,fun j f hj=>by simp at hj⟩ ?_ ?_
 ·rintro p i q ρ e ⟨c3,c4,rfl,low⟩;obtain⟨ip,il⟩:=vN e;have hf:gs[i]?=some (gs.getD i fun x=>x):=by rw[UP,Tf il];rfl
  generalize (gs.getD i fun x=>x)=f at hf
  refine Dm.bQ rfl (by trivial) ?_;unfold Eh;refine XW (XN (U_ (U_ (S_ rfl (S_ rfl (XA ?_ rfl rfl (tF n f a a0 a1)))))));refine U_ (S_ rfl (S_ rfl (XA ?_ rfl rfl (tF n f b b0 b1))));refine Ze (XF ?_) rfl rfl;by_cases h:f a=f b
  ·refine XS (by simp[h]) (XX ⟨_,_,rfl,fun j g hj hg=>?_⟩);rw[Tg,UR]at hj;by_cases q:j=i
   ·subst q;rw[hf]at hg;cases hg;exact h
   ·exact low j g (by lia) hg
  ·refine Yh (by simp[h]) (XQ (U_ (S_ rfl (W_ (X5 ?_ rfl rfl)))));exact⟨_,rfl,.inr ⟨i,f,il,hf,h,fun j g hj=>low j g (by lia),by lia⟩⟩
 ·rintro ρ ⟨c3,c4,rfl,low⟩;rw[Tu]at low;exact XQ (W_ ⟨0,rfl,.inl ⟨rfl,low⟩⟩)
def Ends(n:Int)(r:List Tie):Prop:=∀t∈r,0<=t.a/\t.a<n/\0<=t.b/\t.b<n
def IE(k:Nat)(gs:List (Int->Int))(r:List Tie)(ms:List Int):Prop:=gs.length=k/\∀(j:Nat) f,gs[j]?=some f->Tells f (lay r ms ((j:Int)+1))
theorem map_set(n:Nat)(gs:List (Int->Int))(i:Nat)(f:Int->Int):(gs.map (lab n)).set i (lab n f)=(gs.set i f).map (lab n):=by rw[List.map_set]
def EI(o:Bool)(gs gs':List (Int->Int))(a b:Int)(i:Nat)(num:Int):Prop:=
 (num=0/\gs'=gs/\∀(j:Nat) f,j<i->gs[j]?=some f->f a=f b)\/∃(j:Nat) (f:Int->Int),j<i/\gs[j]?=some f/\f a≠f b/\(∀(j':Nat) f',j'<j->gs[j']?=some f'->f' a=f' b)/\num=(j:Int)+1/\gs'=gs.set j (mgf f (if o then a else b) (if o then b else a))
theorem EI.num{o:Bool}{gs gs':List (Int->Int)}(h:IE k gs r ms)(t:Tie){num:Int}(l:EI o gs gs' t.a t.b k num):vL k r ms t num/\IE k gs' (t::r) (num::ms):=by
 obtain⟨hl,ht⟩:=h;rcases l with⟨rfl,rfl,h2⟩ | ⟨j,f,jk,h1,h3,h4,rfl,rfl⟩
 ·refine⟨.inl ⟨rfl,fun j j1 j2=>?_⟩,hl,fun i g hg=>?_⟩
  ·have hj:(j-1).toNat<gs'.length:=by lia
   have:=(ht (j-1).toNat _ (Tf hj) t.a t.b).mp (h2 _ _ (by lia) (Tf hj));rw[show (((j-1).toNat:Nat):Int)+1=j by lia]at this;exact this
  ·rw[jT,if_neg (by lia)];exact ht i g hg
 ·have hj:j<gs.length:=(S7.mp h1).1;refine⟨.inr ⟨by lia,by lia,fun c=>h3 ((ht j f h1 t.a t.b).mpr c),fun i i1 i2=>?_⟩,by rw[T4];exact hl,fun i g hg=>?_⟩
  ·have hi:(i-1).toNat<gs.length:=by lia
   have:=(ht (i-1).toNat _ (Tf hi) t.a t.b).mp (h4 (i-1).toNat _ (by lia) (Tf hi));rw[show (((i-1).toNat:Nat):Int)+1=i by lia]at this;exact this
  ·rw[jT];by_cases q:j=i
   ·subst q;rw[TN hj]at hg;cases hg;rw[if_pos rfl];cases o
    ·exact tells_mgf (ht j f h1) t t.b t.a (.inr ⟨rfl,rfl⟩)
    ·exact tells_mgf (ht j f h1) t t.a t.b (.inl ⟨rfl,rfl⟩)
   ·rw[HT q]at hg;rw[if_neg (by lia)];exact ht i g hg
theorem QA(n:Nat)(gs:List (Int->Int)){f:Int->Int}(h:gs[i]?=some f):gIx (.lst (gs.map (lab n))) (.int (0+(i:Nat)))=some (.val (lab n f)):=by
 have hi:=(S7.mp h).1;rw[Int.zero_add];show (atI (gs.map (lab n)) i).map RV.val=_;rw[Dm.jP (lab n) gs (i:Nat) (by lia) (by lia)];have:gs[((i:Nat):Int).toNat]'(by lia)=f:=by
  have:=S7.mp h
  simpa using this.2
 rw[this];rfl
theorem Sy(k:Nat):IE k ((S3 k).map fun _=>(fun x:Int=>x)) [] []:=⟨by simp,fun j f hf=>by
 rw[TJ]at hf;cases h:(S3 k)[j]? with
 |none=>rw[h]at hf;cases hf
 |some x=>rw[h]at hf;cases hf;exact tells_nil⟩
theorem h_(n k:Nat)(hn:n<=10)(hk1:1<=k)(hk6:k<=6)(r:List Tie)(hr:Ends n r)(hl:r.length<=1000):∃ms:List Int,rC [.int n,az r,.int k]=some (.new (.lst (ms.map Dat.int)))/\bF k r ms:=by
 suffices hh:Wr (rC [.int (n:Nat),az r,.int (k:Nat)]) fun v=>∃ms:List Int,v=.new (.lst (ms.map Dat.int))/\bF k r ms by obtain⟨v,h1,ms,rfl,h2⟩:=hh;exact⟨ms,h1,h2⟩
 unfold rC
 (refine Dm.XG ?_ rfl rfl;and_intros)
 refine V_ (Yk (XH (m_ (S_ rfl (T_ (XO (gx k (by lia) (by lia)) ?_ rfl rfl))))));refine V_ (XE (Yn (fun i:Nat=>Dat.int (0+(i:Nat))) (S3 k) (fun _=>(fun x:Int=>x)) (lab n) (ρ1:=[.sh (.int (n:Nat)),.sh (az r),.sh (.int (k:Nat)),.un,.un,.un,.un,.un,.un]) ?_ ?_ rfl (by decide) (by rw[Tu];unfold SZ;lia) fun i _=>?_) (by decide))
 rotate_left
 ·apply Yq;refine Yx (S_ rfl (cj.mk ⟨⟨?_,rfl⟩,by unfold BIG;lia,by unfold BIG;lia⟩));rw[VD];rfl
 ·refine XU (m_ (S_ rfl (T_ (Zz ?_ rfl (by lia)))));rw[VD,M8];exact X8 ⟨rfl,rfl⟩
 refine XI ?_ (by trivial);refine V_ (XE (Yc (T_ (XT ?_ rfl rfl (by decide)))) (by decide));refine XI ?_ (by trivial);refine V_ (XY (Zt (S_ rfl (XD ⟨_,rfl,?_⟩))));rw[<- List.map_reverse];refine XZ aL _ _ r.reverse _ _ _ _ _ (fun p q ρ=>∃(gs:List (Int->Int)) (ms:List Int) (c5 c6 c7 c8:Cell),ρ=[.sh (.int (n:Nat)),.sh (az r),.sh (.int (k:Nat)),.ow (.lst (gs.map (lab n))),.ow (.lst (ms.reverse.map Dat.int)),c5,c6,c7,c8]/\IE k gs p.reverse ms/\bF k p.reverse ms) ⟨(S3 k).map fun _=>(fun x:Int=>x),[],.un,.un,.un,.un,rfl,Sy k,trivial⟩ ?_ ?_
 ·rintro p t q ρ e ⟨gs,ms,c5,c6,c7,c8,rfl,I,A⟩;have ht:t∈r:=List.mem_reverse.mp (by rw[e];simp);obtain⟨t0,t1,t2,t3⟩:=hr t ht;have lp:ms.length<=1000:=by
   have a:=A.len;have:r.reverse.length=p.length+(q.length+1):=by rw[e];simp
   rw[UL]at a this
   lia
  obtain⟨num,en,ln⟩:=EH n gs t.a t.b t0 t1 t2 t3;rw[I.1]at ln;refine Dm.bQ rfl (by trivial) ?_;unfold Ei;refine V_ (XE (XH (m_ (XJ rfl (m_ (S_ rfl (m_ (S_ rfl (T_ (XO en (XR ?_ (by trivial)) rfl rfl))))))))) (by decide));refine X7 (fun ρ=>∃gs',ρ=[.sh (.int (n:Nat)),.sh (az r),.sh (.int (k:Nat)),.ow (.lst (gs'.map (lab n))),.ow (.lst (ms.reverse.map Dat.int)),.sh (.int t.m),.sh (.int t.a),.sh (.int t.b),.sh (.int num)]/\EI true gs gs' t.a t.b k num) ?_ ?_
  ·refine XW (XN (U_ (S_ rfl (W_ (Yd (XF ?_) rfl rfl)))));rcases ln with⟨rfl,low⟩ | ⟨j,f,jk,hf,ne,low,rfl⟩
   ·exact XS rfl (XX ⟨gs,rfl,.inl ⟨rfl,rfl,low⟩⟩)
   ·have gi:gIx (.lst (gs.map (lab n))) (.int ((j:Int)+1-1))=some (.val (lab n f)):=by
     have:=QA n gs hf;rw[show (j:Int)+1-1=0+(j:Nat) by lia];exact this
    refine Yh (decide_eq_true (by lia)) ?_;refine Zd (XH (m_ (U_ (XJ rfl (U_ (S_ rfl (W_ (X3 (XA ?_ rfl rfl gi) rfl rfl))))))));refine m_ (S_ rfl (m_ (S_ rfl (T_ (XC (BI n hn f t.a t.b t0 t1 t2 t3) ?_ rfl rfl rfl (by trivial))))));refine X8 ⟨⟨_,rfl⟩,U_ (S_ rfl (W_ (X3 (cj.mk ⟨gs.map (lab n),j,_,rfl,?_,rfl,?_⟩) rfl rfl)))⟩
    ·have hj:j<gs.length:=(S7.mp hf).1;rw[Dk];unfold ixN;rw[if_pos (by lia),if_pos (by lia)]
     congr 1
     lia
    ·exact⟨gs.set j (mgf f t.a t.b),by rw[<- map_set];rfl,.inr ⟨j,f,jk,hf,ne,low,rfl,rfl⟩⟩
  ·rintro ρ ⟨gs',rfl,L⟩;obtain⟨h1,h2⟩:=L.num I t;refine Yi (S_ rfl (XD (kI ?_ rfl (by trivial) (by rw[Dk,UL];unfold SZ;lia)))) rfl;refine⟨gs',num::ms,.sh (.int t.m),.sh (.int t.a),.sh (.int t.b),.sh (.int num),by rw[WX,Tv];rfl,?_⟩;rw[List.reverse_append];exact⟨h2,A,h1⟩
 ·rintro ρ ⟨gs,ms,c5,c6,c7,c8,rfl,I,A⟩;rw[List.reverse_reverse]at A;refine XQ (Yt (XJ rfl (Yp (v:=.new (.lst (ms.map Dat.int))) ?_ rfl ?_)))
  ·exact⟨ms,rfl,A⟩
  ·unfold mZ;dsimp only;rw[<- List.map_reverse,List.reverse_reverse]
theorem Good.mem{n:Int}:∀{r:List Tie} {lo:Int},Good n lo r->∀t∈r,0<=t.a/\t.a<=t.b/\t.b<n
 |[],_,_,t,h=>by cases h
 |x::r,lo,g,t,h=>by
  rcases S4.mp h with rfl | h
  ·exact⟨g.2.1,g.2.2.1,g.2.2.2.1⟩
  ·exact Good.mem g.2.2.2.2 t h
theorem filter_lt(p q:α->Bool):∀(l:List α),(∀x∈l,q x=true->p x=true)->(∃x∈l,p x=true/\q x=false)->(l.filter q).length+1<=(l.filter p).length
 |[],_,⟨x,h,_⟩=>by cases h
 |y::l,h,⟨x,hx,hp,hq⟩=>by
  have le:∀l:List α,(∀x∈l,q x=true->p x=true)->(l.filter q).length<=(l.filter p).length:=by
   intro l
   induction l with
   |nil=>intro _;simp
   |cons z l ih=>
    intro hh;have i2:=ih fun u hu=>hh u (gc _ hu);have hz:=hh z gV;rw[TX,TX];cases hqz:q z with
    |false=>cases p z<;>simp<;>lia
    |true=>rw[hz hqz];simp;lia
  have tl:∀u∈l,q u=true->p u=true:=fun u hu=>h u (gc _ hu);rw[TX,TX];rcases S4.mp hx with rfl | hx
  ·rw[hp,hq];have:=le l tl;simp;lia
  ·have ih:=filter_lt p q l tl ⟨x,hx,hp,hq⟩;cases hqy:q y with
   |false=>cases p y<;>simp<;>lia
   |true=>rw[h y gV hqy];simp;lia
noncomputable def keep(r:List Tie)(ms:List Int):List Tie:=((r.zip ms).filter fun p=>decide (0<p.2)).map (·.1)
theorem eY(t:Tie)(m:Int)(r:List Tie)(ms:List Int):keep (t::r) (m::ms)=if 0<m then t::keep r ms else keep r ms:=by unfold keep;rw[Um,TX];by_cases h:0<m<;>simp[h]
noncomputable def zE(x:Tie×Int):Dat:=.tup [aL x.1,.int x.2]
theorem Ae:∀(r:List Tie) (ms:List Int),gR (r.map aL) (ms.map Dat.int)=(r.zip ms).map zE
 |[],_=>by simp[gR]
 |_::_,[]=>by simp[gR]
 |t::r,m::ms=>by rw[eg,eg,gR,Ae r ms,Um,eg];rfl
theorem ZI(r:List Tie)(ms:List Int)(p:Tie×Int->Bool){t:FT}(q:Q (.new (az (((r.zip ms).filter p).map (·.1)))) ρ1)(ER:it ρ=some (gR (r.map aL) (ms.map Dat.int),ρ1))(hk:ρ1.length=k)(hk0:k≠0)(hl:r.length<=SZ)
  (ht:∀x:Tie×Int,Wt t (ρ1++[.sh (aL x.1),.sh (.int x.2)]) fun c ρ'=>c=p x/\ρ'=ρ1++[.sh (aL x.1),.sh (.int x.2)]):We (bU it 2 (bT [k,k+1]) t (eV k)) ρ Q:=by
 have b:∀(x:Tie×Int) (c1 c2:Cell),bT [k,k+1] (zE x) (ρ1++[c1,c2])=some (ρ1++[.sh (aL x.1),.sh (.int x.2)]):=fun x c1 c2=>by show sets [k,k+1] [aL x.1,.int x.2] _=_;rw[sets,if_neg hk0,sets,if_neg (by lia),sets];rw[Uh _ _ (by lia),Uh _ _ (by lia)];subst hk;rw[WE,show ρ1.length+1-ρ1.length=1 by lia];rfl
 refine Y7 zE (r.zip ms) p (fun x=>x.1) aL (fun x=>(ρ1++[Cell.sh (aL x.1),Cell.sh (.int x.2)]:Env)) (own:=2) (bd:=bT [k,k+1]) (Q:=Q) q (by rw[ER,Ae]) (fun x=>b x .un .un) (fun x y=>b x (.sh (aL y.1)) (.sh (.int y.2))) (fun x=>VH) (by rw[List.length_zip];lia) (fun x _=>ht x) (fun x _ _=>?_);refine S_ (d:=aL x.1) ?_ (XD ⟨rfl,rfl⟩);rw[TZ (by lia),hk,WE];rfl
theorem M9(r:List Tie):eqD (az r) (az r)=true:=by
 unfold az;rw[eqD]
 induction r with
 |nil=>rfl
 |cons b bs ih=>rw[eg,jy,ih];simp[aL,eqD,jy]
theorem M_(r:List Tie):okD 8 (az r)=true:=J4 aL r fun t=>rfl
theorem YE{Q:RV->Prop}(hk:okD 8 d=true)(he:eqD d d=true)(k:Q (.val (.bl false)))(ho:o=some d)(hp:p=some d):Wg2 gNe o p Q:=
 ⟨_,_,_,ho,hp,by unfold gNe;rw[hk,he];rfl,k⟩
noncomputable def jU(n k:Nat)(r:List Tie):Dat:=.tup [.int (n:Nat),.int (k:Nat),az r]
theorem BJ(r:List Tie)(ms:List Int)(q:Q (.new (az (keep r ms))) ρ1)(ER:it ρ=some (gR (r.map aL) (ms.map Dat.int),ρ1))(hk:ρ1.length=k)(hk0:k≠0)(hl:r.length<=SZ):We (bU it 2 (bT [k,k+1]) (tV (e2 gGt (eV (k+1)) (eC (.int 0)))) (eV k)) ρ Q:=by refine ZI r ms (fun p=>decide (0<p.2)) q ER hk hk0 hl fun x=>?_;refine XN (U_ (S_ (d:=.int x.2) ?_ (W_ (Yd (XF ⟨rfl,rfl⟩) rfl rfl))));rw[TZ (by lia),hk];simp
theorem Na(n k:Nat)(hn:n<=10)(hk1:1<=k)(hk6:k<=6)(r:List Tie)(ms:List Int)(hr:Ends n r)(hl:r.length<=1000)(ha:bF k r ms):nN [.int (n:Nat),az r,.int (k:Nat)]=some (.val (jU n k (keep r ms))):=by
 obtain⟨ms',el,al⟩:=h_ n k hn hk1 hk6 r hr hl;rw[al.uniq ha]at el;apply XM;unfold nN
 (refine Dm.XG ?_ rfl rfl;and_intros)
 refine V_ (XE (XH (m_ (S_ rfl (m_ (S_ rfl (m_ (S_ rfl (T_ (XC el ?_ rfl rfl rfl rfl)))))))) ) (by decide));refine XI ?_ (by trivial);refine XQ (Yb (m_ (S_ rfl (m_ (S_ rfl (m_ (BJ (ρ1:=[.sh (.int (n:Nat)),.sh (az r),.sh (.int (k:Nat)),.sh (.lst (ms.map Dat.int))]) r ms (k:=4) ?_ ?_ rfl (by decide) (Tq hl (by decide)))))))))
 ·exact T_ (XT rfl rfl rfl (Ud rfl))
 ·rfl
theorem BK(S:Int->Int)(c:Con ts a b)(h:S a≠S b):∃t∈ts,S t.a≠S t.b:=by
 apply UW;intro hc;have all:∀t∈ts,S t.a=S t.b:=fun t ht=>UW fun z=>hc ⟨t,ht,z⟩;have key:∀{x y:Int},Con ts x y->S x=S y:=fun c=>by
  induction c with
  |refl x=>rfl
  |tie t m=>exact all t m
  |symm _ ih=>exact ih.symm
  |trans _ _ i1 i2=>exact i1.trans i2
 exact h (key c)
theorem vO:∀(k:Nat) (l:List (Tie×Int)),(∀j:Int,1<=j->j<=k->∃p∈l,p.2=j)->k<=l.length
 |0,l,_=>TM _
 |k+1,l,h=>by
  obtain⟨p,hp,ep⟩:=h ((k+1:Nat):Int) (by lia) (by lia);have ih:=vO k (l.filter fun p=>decide (p.2≠((k+1:Nat):Int))) fun j j1 j2=>by obtain⟨q,hq,eq⟩:=h j j1 (by lia);exact⟨q,T3.mpr ⟨hq,decide_eq_true (by lia)⟩,eq⟩
  have:=filter_lt (fun _=>true) (fun p:Tie×Int=>decide (p.2≠((k+1:Nat):Int))) l (fun _ _ _=>rfl) ⟨p,hp,rfl,by simp[ep]⟩;have:=UA (fun _:Tie×Int=>true) l
  lia
noncomputable def gW(S:Int->Int)(t:Int)(r:List Tie):List Tie:=r.filter fun x=>decide (t<=x.m)&&decide (S x.a≠S x.b)
theorem IF{j:Int}(h:t∈lay r ms j):(t,j)∈r.zip ms:=by unfold lay at h;obtain⟨q,hq,rfl⟩:=Td.mp h;obtain⟨h1,h2⟩:=T3.mp hq;have:q.2=j:=of_decide_eq_true h2;rw[<- this];exact h1
theorem rL(k:Nat)(n:Int)(S:Int->Int)(t0:Int):∀(r:List Tie) (ms:List Int) (lo:Int),Good n lo r->bF k r ms->gW S t0 (keep r ms)=gW S t0 r\/k<=(gW S t0 (keep r ms)).length
 |[],[],_,_,_=>.inl rfl
 |t::r,m::ms,lo,hg,ha=>by
  obtain⟨g1,g2,g3,g4,g5⟩:=hg;rcases rL k n S t0 r ms (t.m+1) g5 ha.1 with ih | ih
  ·rw[eY];by_cases h0:0<m
   ·rw[if_pos h0];left;unfold gW at ih ⊢;rw[TX,TX,ih]
   ·rw[if_neg h0];by_cases hc:(decide (t0<=t.m)&&decide (S t.a≠S t.b))=true
    ·right;rw[TY,decide_eq_true_eq,decide_eq_true_eq]at hc;have hm:∀j:Int,1<=j->j<=k->Con (lay r ms j) t.a t.b:=by
      rcases ha.2 with⟨_,h⟩ | ⟨h1,_⟩
      ·exact h
      ·lia
     have e:gW S t0 (keep r ms)=((r.zip ms).filter fun p=>decide (0<p.2)&&(decide (t0<=p.1.m)&&decide (S p.1.a≠S p.1.b))).map (·.1):=by
      unfold gW keep;rw[Xd,Uw]
      congr 2
      funext p
      simp[WS]
     rw[e,Dk];refine vO k _ fun j j1 j2=>?_;obtain⟨u,hu,hs⟩:=BK S (hm j j1 j2) hc.2;have hz:=IF hu;have hur:u∈r:=(UY hz).1;have:=Good.lo g5 u hur;refine⟨(u,j),T3.mpr ⟨hz,?_⟩,rfl⟩;simp only[TY,decide_eq_true_eq];exact⟨by lia,by lia,hs⟩
    ·left;have hf:(decide (t0<=t.m)&&decide (S t.a≠S t.b))=false:=by cases hq:(decide (t0<=t.m)&&decide (S t.a≠S t.b)) with | false=>rfl | true=>exact absurd hq hc
     unfold gW at ih ⊢;rw[TX,hf,ih];simp
  ·right;rw[eY];by_cases h0:0<m
   ·rw[if_pos h0];unfold gW at ih ⊢;rw[TX];split
    ·rw[TV];lia
    ·exact ih
   ·rw[if_neg h0];exact ih
 |[],_::_,_,_,h=>h.elim
 |_::_,[],_,_,h=>h.elim
theorem vP:∀(r:List Tie) (ms:List Int) (j:Int),1<=j->lay (keep r ms) (ms.filter fun m=>decide (0<m)) j=lay r ms j\/r.length≠ms.length
 |[],[],_,_=>.inl rfl
 |[],_::_,_,_=>.inr (by simp)
 |_::_,[],_,_=>.inr (by simp)
 |t::r,m::ms,j,hj=>by
  rcases vP r ms j hj with ih | ih
  ·left;rw[eY,jT];by_cases h:0<m
   ·rw[if_pos h,Us (by simpa using h),jT,ih]
   ·rw[if_neg h,Ur (by simpa using h),ih,if_neg (by lia)]
  ·right
   simpa using ih
theorem vQ{k:Int}:∀{r:List Tie} {ms:List Int},bF k r ms->bF k (keep r ms) (ms.filter fun m=>decide (0<m))
 |[],[],_=>trivial
 |t::r,m::ms,h=>by
  have ih:=vQ h.1;rw[eY];by_cases q:0<m
  ·rw[if_pos q,Us (by simpa using q)];refine⟨ih,?_⟩;have e:∀j,1<=j->lay (keep r ms) (ms.filter fun m=>decide (0<m)) j=lay r ms j:=fun j hj=>by
    rcases vP r ms j hj with z | z
    ·exact z
    ·exact absurd h.1.len.symm z
   rcases h.2 with⟨h0,_⟩ | ⟨h1,h2,h3,h4⟩
   ·lia
   ·exact .inr ⟨h1,h2,by rw[e m h1];exact h3,fun j j1 j2=>by rw[e j j1];exact h4 j j1 j2⟩
  ·rw[if_neg q,Ur (by simpa using q)];exact ih
 |[],_::_,h=>h.elim
 |_::_,[],h=>h.elim
theorem jV:∀(r:List Tie) (ms:List Int),(keep r ms).Sublist r
 |[],ms=>by unfold keep;simp
 |_::_,[]=>by unfold keep;simp
 |t::r,m::ms=>by
  rw[eY];split
  ·exact(jV r ms).cons_cons t
  ·exact(jV r ms).cons t
theorem vR(n i:Int)(h0:0<=i)(h1:i<n):ve [.int n,.int i]=some (.val (.bl true)):=by
 apply XM;unfold ve
 (refine Dm.XG ?_ rfl rfl;and_intros)
 refine XQ (XH (m_ (S_ rfl (m_ (W_ (m_ (U_ (S_ rfl (W_ (X3 ?_ rfl rfl))))))))));exact T_ (XO (eX i 0 (n-1) h0 (by lia)) rfl rfl rfl)
theorem BL(m:Int)(h0:0<=m)(h1:m<=Z30):zQ [.int m]=some (.val (.bl true)):=by
 apply XM;unfold zQ
 (refine Dm.XG ?_ rfl rfl;and_intros)
 refine XQ (XH (m_ (S_ rfl (m_ (W_ (m_ (U_ (W_ (W_ (YJ (z:=Z30) ?_ rfl rfl (by decide) (by decide)))))))))));exact T_ (XO (eX m 0 Z30 h0 h1) rfl rfl rfl)
theorem rM(n:Int)(t:Tie)(m0:0<=t.m)(m1:t.m<=Z30)(a0:0<=t.a)(a1:t.a<n)(b0:0<=t.b)(b1:t.b<n):vf [.int n,aL t]=some (.val (.bl true)):=by
 apply XM;unfold vf aL
 (refine Dm.XG ?_ rfl rfl;and_intros)
 repeat array_get_dec
 refine XS rfl ?_
 repeat array_get_dec
 refine XS rfl ?_
 repeat array_get_dec
 refine XO (BL t.m m0 m1) ?_ rfl rfl
 repeat array_get_dec
 refine XO (vR n t.a a0 a1) ?_ rfl rfl
 repeat array_get_dec
 refine XO (vR n t.b b0 b1) ?_ rfl rfl
 repeat array_get_dec
 rfl
theorem BN(n:Int)(t:Tie)(m0:0<=t.m)(m1:t.m<=Z30)(a0:0<=t.a)(ab:t.a<=t.b)(b1:t.b<n):zR [.int n,aL t]=some (.val (.bl true)):=by
 apply XM;unfold zR
 (refine Dm.XG ?_ rfl rfl;and_intros)
 repeat array_get_dec
 refine XO (rM n t m0 m1 a0 (by lia) (by lia) b1) ?_ rfl rfl
 repeat array_get_dec
 exact congrArg (fun b=>RV.val (Dat.bl b)) (decide_eq_true ab)
noncomputable abbrev lY(D:List Tie):Prop:=D.Pairwise fun t u=>t.m<u.m
theorem mq(n:Nat):ups 1 n=(S3 n).map fun i:Nat=>Dat.int (1+(i:Int)):=rfl
theorem jW(n:Int)(h1:1<=n)(h2:n<=10):vd [.int n]=some (.val (.bl true)):=by
 apply XM;unfold vd
 (refine Dm.XG ?_ rfl rfl;and_intros)
 repeat array_get_dec
 refine XO (eX n 1 10 h1 h2) ?_ rfl rfl
 repeat array_get_dec
 rfl
theorem tH(n:Int)(h1:1<=n)(h2:n<=6):nM [.int n]=some (.val (.bl true)):=by
 apply XM;unfold nM
 (refine Dm.XG ?_ rfl rfl;and_intros)
 repeat array_get_dec
 refine XO (eX n 1 6 h1 h2) ?_ rfl rfl
 repeat array_get_dec
 rfl
theorem BO(D:List Tie)(h:lY D)(hl:D.length<=75):zS [.lst ((D.map (·.m)).map Dat.int)]=some (.val (.bl true)):=by
 have sz:1000<=SZ:=by decide
 apply XM;unfold zS
 (refine Dm.XG ?_ rfl rfl;and_intros)
 refine XQ (XU (m_ ?_));have ER:iR2 (eC (.int 1)) (eB cG [eV 0]) [.sh (.lst ((D.map (·.m)).map Dat.int))]=some ((S3 ((D.length:Int)-1).toNat).map (fun i:Nat=>Dat.int (1+(i:Int))),[.sh (.lst ((D.map (·.m)).map Dat.int))]):=by
  refine Yq ?_
  repeat array_get_dec
  refine⟨⟨?_,rfl⟩,?_⟩
  ·rw[mq,Dk]
  ·rw[Dk];unfold BIG;lia
 refine Yn (fun i:Nat=>Dat.int (1+(i:Int))) (S3 ((D.length:Int)-1).toNat) (fun _=>true) Dat.bl ?_ ER rfl (by decide) (by simp;lia) (fun i hi=>?_)
 ·refine T_ (YS (fun b=>b) (xs:=(S3 ((D.length:Int)-1).toNat).map fun _=>true) ?_ rfl);exact YW (congrArg (fun b=>RV.val (Dat.bl b)) (by simp))
 ·have hi':=Tw.mp hi
  repeat array_get_dec
  refine Yv (sY:=Dat.int) (xs:=D.map (·.m)) (i:=1+(i:Int)-1) (by lia) (by rw[Dk];lia) ?_ rfl rfl
  repeat array_get_dec
  refine Yv (sY:=Dat.int) (xs:=D.map (·.m)) (i:=1+(i:Int)) (by lia) (by rw[Dk];lia) ?_ rfl rfl
  repeat array_get_dec
  have lt:=Ul.mp h (1+(i:Int)-1).toNat (1+(i:Int)).toNat (by lia) (by lia) (by lia);refine⟨congrArg Dat.bl (decide_eq_true ?_),rfl⟩;rw[List.getElem_map,List.getElem_map];exact lt
structure Rcd(n:Nat)(r:List Tie):Prop where
 ok:∀t∈r,0<=t.m/\t.m<=Z30/\0<=t.a/\t.a<=t.b/\t.b<n
 up:lY r
 len:r.length<=60
theorem Rcd.sub{r q:List Tie}(h:Rcd n r)(s:q.Sublist r):Rcd n q:=⟨fun t ht=>h.ok t (s.subset ht),h.up.sublist s,Tq s.length_le h.len⟩
theorem Rcd.ends(h:Rcd n r):Ends n r:=fun t ht=>by obtain⟨h1,h2,h3,h4,h5⟩:=h.ok t ht;exact⟨h3,by lia,by lia,h5⟩
theorem Rcd.good(h:Rcd n r):Good n 0 r:=by
 have go:∀(r:List Tie) (lo:Int),(∀t∈r,0<=t.a/\t.a<=t.b/\t.b<(n:Nat))->(∀t∈r,lo<=t.m)->lY r->Good n lo r:=fun r=>by
  induction r with
  |nil=>intro lo _ _ _;trivial
  |cons t r ih=>intro lo h1 h2 h3;obtain⟨p1,p2⟩:=Uv.mp h3;obtain⟨q1,q2,q3⟩:=h1 t gV;exact⟨h2 t gV,q1,q2,q3,ih (t.m+1) (fun u hu=>h1 u (gc _ hu)) (fun u hu=>by have:=p1 u hu;lia) p2⟩
 exact go r 0 (fun t ht=>(h.ok t ht).2.2) (fun t ht=>(h.ok t ht).1) h.up
theorem tK(n:Nat)(n1:1<=n)(n10:n<=10)(r:List Tie)(h:Rcd n r):zZ [.int (n:Nat),az r]=some (.val (.bl true)):=by
 have sz:1000<=SZ:=by decide
 have hl:=h.len;apply XM;unfold zZ
 (refine Dm.XG ?_ rfl rfl;and_intros)
 repeat array_get_dec
 refine XO (jW n (by lia) (by lia)) ?_ rfl rfl
 repeat array_get_dec
 refine XS rfl ?_
 repeat array_get_dec
 refine XS rfl ?_
 repeat array_get_dec
 refine XS (decide_eq_false (by rw[Dk];lia)) ?_
 repeat array_get_dec
 refine Ye aL r (fun _=>true) Dat.bl ?_ rfl rfl rfl (by decide) (by lia) (fun t ht=>?_)
 rotate_left
 ·obtain⟨h1,h2,h3,h4,h5⟩:=h.ok t ht
  repeat array_get_dec
  refine XO (BN n t h1 h2 h3 h4 h5) ?_ rfl rfl
  repeat array_get_dec
  exact⟨rfl,rfl⟩
 repeat array_get_dec
 refine YS (fun b=>b) (xs:=r.map fun _=>true) ?_ rfl
 repeat array_get_dec
 refine XS (by simp) ?_
 repeat array_get_dec
 refine Ye aL r (·.m) Dat.int ?_ rfl rfl rfl (by decide) (by lia) (fun t ht=>?_)
 rotate_left
 ·repeat array_get_dec
  exact⟨rfl,rfl⟩
 repeat array_get_dec
 refine XO (BO r h.up (by lia)) ?_ rfl rfl
 repeat array_get_dec
 rfl
structure Net(n k:Nat)(N:List Tie):Prop where
 rc:Rcd n N
 num:∃ms,bF k N ms/\(0:Int)∉ms
theorem BP(n k:Nat)(n1:1<=n)(n10:n<=10)(k1:1<=k)(k6:k<=6)(N:List Tie)(h:Net n k N):z5 [jU n k N]=some (.val (.bl true)):=by
 have hl:=h.rc.len;obtain⟨ms,el,al⟩:=h_ n k n10 k1 k6 N h.rc.ends (by lia);obtain⟨ms',al',h0⟩:=h.num;rw[al'.uniq al]at h0;apply XM;unfold z5 jU
 (refine Dm.XG ?_ rfl rfl;and_intros)
 repeat array_get_dec
 refine XS rfl ?_
 repeat array_get_dec
 refine XS rfl ?_
 repeat array_get_dec
 refine XO (tH k (by lia) (by lia)) ?_ rfl rfl
 repeat array_get_dec
 refine XS rfl ?_
 repeat array_get_dec
 refine XO (tK n n1 n10 N h.rc) ?_ rfl rfl
 repeat array_get_dec
 refine XS rfl ?_
 repeat array_get_dec
 refine XC el ?_ rfl rfl rfl (by trivial)
 repeat array_get_dec
 refine Zr (xs:=ms) ?_ rfl rfl
 repeat array_get_dec
 exact congrArg (fun b=>RV.val (Dat.bl b)) (by simp[h0])
theorem Rcd.of(g:Good n 0 r)(hl:r.length<=60)(hm:∀t∈r,t.m<=Z30):Rcd n r:=⟨fun t ht=>by
  obtain⟨q1,q2,q3⟩:=Good.mem g t ht;exact⟨Good.lo g t ht,hm t ht,q1,q2,q3⟩,by
  have up:∀(r:List Tie) (lo:Int),Good n lo r->lY r:=fun r=>by
   induction r with
   |nil=>intro _ _;exact List.Pairwise.nil
   |cons t r ih=>intro lo g;exact Uv.mpr ⟨fun u hu=>by have:=Good.lo g.2.2.2.2 u hu;lia,ih _ g.2.2.2.2⟩
  exact up r 0 g,hl⟩
noncomputable def bY(r:List Tie)(t:Int):List Tie:=r.filter fun x=>decide (t<=x.m)
theorem EJ(r:List Tie)(hl:r.length<=1000)(t:Int):z0 [az r,.int t]=some (.new (az (bY r t))):=by
 apply XM;unfold z0
 (refine Dm.XG ?_ rfl rfl;and_intros)
 refine XQ ?_;refine Ys aL r (fun x=>decide (t<=x.m)) id aL (d:=az r) ?_ rfl rfl rfl (by decide) (by unfold SZ;lia) (fun u _=>?_) fun u _ _=>?_
 ·rw[UO];rfl
 ·exact XN (U_ (U_ (S_ rfl (W_ (XA (S_ rfl (YU (XF ⟨rfl,rfl⟩) rfl rfl)) rfl rfl rfl)))))
 ·exact S_ rfl (XD ⟨rfl,rfl⟩)
theorem IG(r:List Tie)(t:Int):(bY r t).length<=r.length:=UA _ _
theorem tL{n:Int}{t:Int}(g:Good n 0 r)(h:t<=0):bY r t=r:=by unfold bY;apply Vr.mpr;intro u hu;exact decide_eq_true (by have:=g.lo u hu;lia)
theorem vS(n k:Nat)(n1:1<=n)(n10:n<=10)(k1:1<=k)(k6:k<=6)(N:List Tie)(h:Net n k N):z6 [jU n k N]=some (.val .non):=by
 apply XM;unfold z6
 (refine Dm.XG ?_ rfl rfl;and_intros)
 exact XW (Yj (XN (XH (m_ (S_ rfl (T_ (XO (BP n k n1 n10 k1 k6 N h) (XF (Yl (XX rfl))) rfl rfl)))))))
theorem tM(r:List Tie)(hl:r.length<=1000)(S:List Int):vh [az r,tupI S]=some (.new (.lst ((bB r S).map Dat.int))):=by
 apply XM;unfold vh
 (refine Dm.XG ?_ rfl rfl;and_intros)
 refine XQ ?_;refine Zi aL r (ovr S) (·.m) Dat.int (fun t=>.int t.m) (fun t=>.int t.a) (fun t=>.int t.b) (fun _=>rfl) (d:=az r) ?_ rfl rfl rfl (by decide) (by unfold SZ;lia) (fun u _=>?_) fun u _ _=>?_
 ·rfl
 ·refine XN (U_ (U_ (S_ rfl (S_ rfl (Yw (xs:=S) ?_ rfl rfl)))));refine U_ (S_ rfl (S_ rfl (Yw (xs:=S) ?_ rfl rfl)));exact YH (XF ⟨rfl,rfl⟩) rfl rfl
 ·exact S_ rfl (XD ⟨rfl,rfl⟩)
noncomputable def bL:Nat->List (List Int)
 |0=>[[]]
 |p+1=>bL p++(bL p).map fun S=>S++[((p+1:Nat):Int)]
theorem gM:∀p,(bL p).length=2 ^ p
 |0=>rfl
 |p+1=>by rw[bL,Tg,Dk,gM p,Xx];lia
theorem jX:∀(p:Nat) (S:List Int),S∈bL p->(∀x∈S,1<=x/\x<=p)/\S.length<=p
 |0,S,h=>by rw[bL]at h;have:=Th.mp h;subst this;refine⟨fun x hx=>?_,PU _⟩;cases hx
 |p+1,S,h=>by
  rw[bL]at h;rcases Tp.mp h with h | h
  ·obtain⟨a,b⟩:=jX p S h;exact⟨fun x hx=>⟨(a x hx).1,by have:=(a x hx).2;lia⟩,by lia⟩
  ·obtain⟨T,hT,rfl⟩:=Td.mp h;obtain⟨a,b⟩:=jX p T hT;refine⟨fun x hx=>?_,by rw[Tg];simp;lia⟩;rcases Tp.mp hx with hx | hx
   ·exact⟨(a x hx).1,by have:=(a x hx).2;lia⟩
   ·rw[Th.mp hx];lia
theorem gy:∀p,(bL p).Nodup
 |0=>by simp[bL]
 |p+1=>by
  rw[bL];refine UE.mpr ⟨gy p,?_,fun S hS T hT e=>?_⟩
  ·refine Xr.map _ (fun a b M7 e=>M7 ?_) (gy p);exact List.append_cancel_right e
  ·obtain⟨U,hU,rfl⟩:=Td.mp hT;have:=((jX p S hS).1 ((p+1:Nat):Int) (by rw[e];simp)).2
   lia
theorem ic:∀p,∃r,bL p=[]::r/\∀S∈r,S≠[]
 |0=>⟨[],rfl,fun S h=>by cases h⟩
 |p+1=>by
  obtain⟨r,e,h⟩:=ic p;refine⟨r++(bL p).map fun S=>S++[((p+1:Nat):Int)],by rw[bL,e];rfl,fun S hS=>?_⟩;rcases Tp.mp hS with hS | hS
  ·exact h S hS
  ·obtain⟨T,_,rfl⟩:=Td.mp hS;simp
theorem EK{p:Nat}(h:p<=9):2 ^ p<=512:=WG (by decide) h
theorem BQ(S:List Int)(x:Int){ρ:Env}{a b:FE}(ha:a ρ=some (.val (tupI S),ρ))(hb:b ρ=some (.val (.int x),ρ))(hl:S.length<=20)(q:Q (.val (tupI (S++[x]))) ρ):We (e2 qV a (dj [b])) ρ Q:=by refine U_ ⟨_,_,ha,Yb (m_ ⟨_,_,hb,T_ (XT ?_ rfl rfl (by show 1<=SZ;unfold SZ;lia))⟩)⟩;refine⟨_,_,_,rfl,rfl,(show qV (tupI S) (.tup [.int x])=some (.val (tupI (S++[x]))) from ?_),q⟩;show (if (S.map Dat.int).length+1<=SZ then some (RV.val (.tup (S.map Dat.int++[.int x]))) else none)=_;rw[if_pos (by rw[Dk];unfold SZ;lia)];show _=some (RV.val (.tup ((S++[x]).map Dat.int)));rw[Tv];rfl
theorem ZE(sY:α->Dat)(x0:α)(r:List α)(p:α->Bool)(v:α->Dat){i:Nat}{k:Nat}{t:FT}{el:FE}{ρ ρa ρb:Env}{Q:Val->Env->Prop}
  (q:Q (.new (.lst (((x0::r).filter p).map v))) (ρb.set i (.ow (.lst ((x0::r).map sY))))) (hi:ρ[i]?=some (.ow (.lst ((x0::r).map sY)))) (h1:ρ.set i .un=ρa) (hk:ρ.length=k) (hkb:ρb.length=k) (hk0:k≠0) (hl:(x0::r).length<=SZ)
  (h0:Wt t (ρa++[.sh (sY x0)]) fun c ρ'=>c=p x0/\ρ'=ρb++[.sh (sY x0)])
  (ht:∀x∈r,Wt t (ρb++[.sh (sY x)]) fun c ρ'=>c=p x/\ρ'=ρb++[.sh (sY x)])
  (he:∀x∈x0::r,p x=true->We el (ρb++[.sh (sY x)]) fun w ρ'=>Wk ρ' w fun d ρ''=>d=v x/\ρ''=ρb++[.sh (sY x)]):We (aM i 1 (bN k) t el) ρ Q:=by
 have D9:ρa.length=ρ.length:=by rw[<- h1,T4]
 have bda:∀(d:Dat) (c:Cell),bN k d (ρa++[c])=some (ρa++[.sh d]):=fun d c=>by unfold bN;rw[if_neg hk0,Uh _ _ (by lia)];simp[hk,D9]
 have bdb:∀(d:Dat) (c:Cell),bN k d (ρb++[c])=some (ρb++[.sh d]):=fun d c=>by unfold bN;rw[if_neg hk0,Uh _ _ (by lia)];simp[hkb]
 have e:∃c',cF (bN k) t el ((x0::r).map sY) (ρa++[.un]) []=some (((x0::r).filter p).map v,ρb++[c']):=by
  rw[eg,cF,bda];dsimp only;obtain⟨c0,ρ0,e0,rfl,rfl⟩:=h0;rw[e0];have Bu:=fun tG=>u7 sY p v (bN k) t el (fun c=>ρb++[c]) bdb r (.sh (sY x0)) tG (fun x hx=>YG (ht x hx)) fun x hx=>he x (gc _ hx);rw[TX];cases hp:p x0 with
  |false=>dsimp only;obtain⟨c',e⟩:=Bu [];exact⟨c',by rw[e];rfl⟩
  |true=>dsimp only;obtain⟨w,ρ',e1,d,ρ'',e2,rfl,rfl⟩:=he x0 gV hp;rw[e1];dsimp only;rw[e2];dsimp only;obtain⟨c',e⟩:=Bu ([]++[v x0]);exact⟨c',by rw[e];rfl⟩
 obtain⟨c',e⟩:=e;refine⟨_,_,?_,q⟩;unfold aM;rw[hi];dsimp only;rw[if_pos (by rw[Dk];exact hl),h1];show (match cF _ _ _ _ (ρa++[.un]) [] with | none=>none | some (ys,ρ2)=>some (Val.new (.lst ys),(ρ2.take ρ.length).set i (.ow (.lst ((x0::r).map sY)))))=_;rw[e];dsimp only;rw[show ρ.length=ρb.length by lia,VH]
noncomputable def amg(r:List Tie)(p:Nat):List Tie:=r.filter fun t=>decide (t.b<=(p:Int))
noncomputable def cD(r:List Tie)(k p:Nat):List (List Int):=(bL p).filter fun S=>decide ((bB (amg r p) S).length<k)
theorem filter_le{p q:α->Bool}{l:List α}(h:∀x∈l,p x=true->q x=true):(l.filter p).length<=(l.filter q).length:=by
 induction l with
 |nil=>simp
 |cons x l ih=>
  have:=ih fun y hy=>h y (gc _ hy);rw[TX,TX];cases hp:p x with
  |false=>cases q x<;>simp<;>lia
  |true=>rw[h x gV hp];simp;lia
theorem Af(r:List Tie)(p:Nat)(S:List Int):(bB (amg r p) S).length=(r.filter fun t=>decide (t.b<=(p:Int))&&ovr S t).length:=by
 unfold bB amg;rw[Dk,Uw]
 congr 1
 exact Uk fun t _=>WS _ _
theorem BR{n:Int}(hr:Ends n r)(M7:∀t∈r,t.a<=t.b)(k p:Nat) :
  (cD r k p++(cD r k p).map fun S=>S++[((p+1:Nat):Int)]).filter (fun S=>decide ((bB (amg r (p+1)) S).length<k))=cD r k (p+1):=by
 have ff:∀{α:Type} (a b:α->Bool) (l:List α),(∀x∈l,a x=true->b x=true)->(l.filter b).filter a=l.filter a:=fun a b l h=>by
  rw[Uw];exact Uk fun x hx=>by cases ha:a x with
   |false=>simp
   |true=>simp[h x hx ha]
 unfold cD;rw[bL,VZ,VZ,Xd,Xd]
 congr 1
 ·refine ff _ _ _ fun S hS h=>decide_eq_true ?_;have h:=of_decide_eq_true h;rw[Af]at h ⊢;refine US (filter_le fun t ht q=>?_) h;simp only[TY,decide_eq_true_eq]at q ⊢;exact⟨by lia,q.2⟩
 ·congr 1
  refine ff _ _ _ fun S hS h=>decide_eq_true ?_;have h:=of_decide_eq_true (show decide ((bB (amg r (p+1)) (S++[((p+1:Nat):Int)])).length<k)=true from h);rw[Af]at h ⊢;refine US (filter_le fun t ht q=>?_) h;simp only[TY,decide_eq_true_eq]at q ⊢;refine⟨by lia,?_⟩;have h1:=M7 t ht;have:=q.1;have nm:∀z:Int,z<=p->decide (z∈S++[((p+1:Nat):Int)])=decide (z∈S):=fun z hz=>by
   have J5:z≠((p+1:Nat):Int):=by lia
   by_cases hm:z∈S
   ·rw[decide_eq_true hm,decide_eq_true (T6 _ hm)]
   ·rw[decide_eq_false hm,decide_eq_false fun q=>?_];rcases Tp.mp q with q | q
    ·exact hm q
    ·exact J5 (Th.mp q)
  have e1:=nm t.a (by lia);have e2:=nm t.b (by lia);have q2:=q.2;unfold ovr at q2 ⊢;rw[e1,e2];exact q2
theorem II(r:List Tie):bB r []=[]:=by unfold bB;rw[List.filter_eq_nil_iff.mpr fun t _=>by simp[ovr]];rfl
theorem rN(r:List Tie)(k1:1<=k)(p:Nat):∃q,cD r k p=[]::q:=by obtain⟨q,e,_⟩:=ic p;unfold cD;rw[e,TX,II];exact⟨_,if_pos (decide_eq_true (show 0<k by lia))⟩
theorem nW(r:List Tie)(k p:Nat):(cD r k p).length<=2 ^ p:=by rw[<- gM];exact UA _ _
theorem IJ{k p:Nat}{S:List Int}(h:S∈cD r k p):S∈bL p:=(T3.mp h).1
noncomputable def bu(n k:Nat)(r:List Tie):List (List Int):=(bL (n-1)).tail.filter fun S=>decide ((bB r S).length<k)
theorem EL{n k:Nat}(n1:1<=n)(hr:Ends n r):(cD r k (n-1)).filter (fun S=>decide (0<S.length))=bu n k r:=by
 have e:amg r (n-1)=r:=by
  unfold amg;refine Vr.mpr fun t ht=>decide_eq_true ?_;have:=(hr t ht).2.2.2
  lia
 unfold cD bu;rw[e];obtain⟨q,eq,hq⟩:=ic (n-1);rw[eq,Uw,TX,if_neg (by simp),List.tail_cons];refine Uk fun S hS=>?_;have:0<S.length:=List.length_pos_iff.mpr (hq S hS);simp[this]
theorem IK(n k:Nat)(n1:1<=n)(n10:n<=10)(k1:1<=k)(r:List Tie)(hr:Ends n r)(M7:∀t∈r,t.a<=t.b)(hl:r.length<=1000) :
  vq [.int (n:Nat),az r,.int (k:Nat)]=some (.new (.lst ((bu n k r).map tupI))):=by
 apply XM;unfold vq
 (refine Dm.XG ?_ rfl rfl;and_intros)
 refine V_ (XE (Yc (m_ (Yb (T_ (XT (T_ (XT (XI ?_ (by trivial)) rfl rfl (by decide))) rfl rfl (by decide)))))) (by decide));refine V_ (XY (Yr (W_ (cj.mk (S_ rfl (cj.mk ⟨?_,by unfold BIG;lia⟩))))));rw[show ((n:Int)-1).toNat=n-1 by lia,mq];have t0:cD r k 0=[[]]:=by
  obtain⟨q,e⟩:=rN r k1 0;have:=nW r k 0;rw[e]at this ⊢;cases q with
  |nil=>rfl
  |cons a b=>simp at this
 refine XZ (fun i:Nat=>Dat.int (1+(i:Int))) _ _ (S3 (n-1)) _ _ _ _ _ (fun p q ρ=>∃c4 c5 c6:Cell,ρ=[.sh (.int (n:Nat)),.sh (az r),.sh (.int (k:Nat)),.ow (.lst ((cD r k p.length).map tupI)),c4,c5,c6]) ⟨_,_,_,by rw[Vy,t0];rfl⟩ ?_ ?_
 ·rintro p i q ρ e ⟨c4,c5,c6,rfl⟩;obtain⟨hi,hin⟩:=vN e;have hb:=EK (p:=p.length) (by lia);have hb2:=nW r k p.length;have ei:(1+(i:Int))=((p.length+1:Nat):Int):=by lia
  refine Dm.bQ rfl (by trivial) ?_;rw[ei];unfold Ek;refine V_ (XE ?_ (by decide));refine Ys aL r (fun t=>decide (t.b<=((p.length+1:Nat):Int))) id aL (d:=az r) (XI ?_ (by trivial)) rfl rfl rfl (by decide) (by unfold SZ;lia) (fun u _=>?_) fun u _ _=>?_
  rotate_left
  ·exact XN (U_ (U_ (S_ rfl (W_ (XA (v:=.int u.b) (S_ rfl (Za (XF ⟨rfl,rfl⟩) rfl rfl)) rfl rfl rfl)))))
  ·exact S_ rfl (XD ⟨rfl,rfl⟩)
  rw[UO];show Ws _ [_,_,_,_,_,.ow (az (amg r (p.length+1))),_] _ _ _ _;have hla:(amg r (p.length+1)).length<=1000:=Tq (UA _ _) hl;refine V_ (XE (U_ (XJ rfl ?_)) (by decide));refine YO tupI (cD r k p.length) (fun S=>S++[((p.length+1:Nat):Int)]) tupI ?_ rfl (by trivial) rfl (by decide) (by unfold SZ;lia) fun S hS=>?_
  rotate_left
  ·exact BQ S _ rfl rfl (by have:=(jX _ S (IJ hS)).2;lia) (XD ⟨rfl,rfl⟩)
  refine YX (XI ?_ (by trivial)) rfl rfl (by rw[Dk,Dk,Dk];unfold SZ;lia);rw[<- Tv];obtain⟨w,ew⟩:=rN r k1 p.length;have step:=BR hr M7 k p.length;have D9:(cD r k p.length++(cD r k p.length).map fun S=>S++[((p.length+1:Nat):Int)]).length<=2000:=by rw[Tg,Dk];lia
  rw[show (p++[i]).length=p.length+1 by simp,<- step];obtain⟨w2,ew2⟩:∃w2,(cD r k p.length++(cD r k p.length).map fun S=>S++[((p.length+1:Nat):Int)])=[]::w2:=⟨_,by rw[ew];rfl⟩
  rw[ew2]at D9 ⊢
  generalize cD r k p.length=TL at *
  generalize amg r (p.length+1)=AM at *
  refine XE ?_ (by decide);refine ZE tupI [] w2 (fun S=>decide ((bB AM S).length<k)) tupI (ρb:=[.sh (.int (n:Nat)),.sh (az r),.sh (.int (k:Nat)),.ow (.lst (TL.map tupI)),.sh (.int ((p.length+1:Nat):Int)),.sh (az AM),.un])
   (XI ⟨_,_,_,rfl⟩ (by trivial)) rfl (by trivial) rfl rfl (by decide) (by unfold SZ;lia) ?_ (fun S _=>?_) fun S _ _=>?_
  ·refine XN (U_ (XU (m_ (XH (m_ (XJ rfl (m_ (S_ rfl (T_ (XC (tM AM hla []) ?_ rfl rfl rfl rfl)))))))))) ;refine T_ (Yg (sY:=Dat.int) (xs:=bB AM []) ?_ rfl);refine S_ rfl (Yo (XF ⟨?_,rfl⟩) rfl rfl);exact decide_eq_decide.mpr (by lia)
  ·refine XN (U_ (XU (m_ (XH (m_ (S_ rfl (m_ (S_ rfl (T_ (XC (tM AM hla S) ?_ rfl rfl rfl rfl)))))))))) ;refine T_ (Yg (sY:=Dat.int) (xs:=bB AM S) ?_ rfl);refine S_ rfl (Yo (XF ⟨?_,rfl⟩) rfl rfl);exact decide_eq_decide.mpr (by lia)
  ·exact S_ rfl (XD ⟨rfl,rfl⟩)
 ·rintro ρ ⟨c4,c5,c6,rfl⟩;rw[Tu];have hb:=EK (p:=n-1) (by lia);have hb2:=nW r k (n-1);refine XQ ?_;refine ZF tupI (cD r k (n-1)) (fun S=>decide (0<S.length)) id tupI (YC ?_) rfl (by trivial) rfl (by decide) (by unfold SZ;lia) (fun S _=>?_) fun S _ _=>?_
  ·rw[UO,EL n1 hr]
  ·refine XN (U_ (XU (m_ (S_ rfl (T_ (Zm (xs:=S.map Dat.int) ?_ rfl))))));refine W_ (Yd (XF ⟨?_,rfl⟩) rfl rfl);rw[Dk];exact decide_eq_decide.mpr (by lia)
  ·exact S_ rfl (XD ⟨rfl,rfl⟩)
theorem vU{α β:Type}(f:α->β)(lt:β->β->Bool)(x:α):∀l:List α,Dm.ins lt (f x) (l.map f)=(Dm.ins (fun a b=>lt (f a) (f b)) x l).map f
 |[]=>rfl
 |y::l=>by
  rw[eg,Dm.ins,Dm.ins];split
  ·rw[vU f lt x l,eg]
  ·rw[eg,eg]
theorem rO{α β:Type}(f:α->β)(lt:β->β->Bool):∀l:List α,bg lt (l.map f)=(bg (fun a b=>lt (f a) (f b)) l).map f
 |[]=>rfl
 |x::l=>by rw[eg,bg,bg,rO f lt l,vU]
noncomputable abbrev IL(r:List Tie)(S:List Int):Dat:=.lst ((bB r S).map Dat.int)
noncomputable def cutD(r:List Tie)(S:List Int):Dat:=.tup [tupI S,IL r S]
noncomputable def yw(r:List Tie)(S:List Int):List Int:=((bB r S).length:Int)::S
noncomputable abbrev FK:FE:=dj [(eB cG [(e2 gIx (eV 0) (eC (.int 1)))]),(e2 gIx (eV 0) (eC (.int 0)))]
theorem gO(r:List Tie)(S:List Int):uX FK (cutD r S)=some (yw r S):=by
 have w:We FK [.sh (cutD r S)] fun v ρ=>v=.val (.tup [.int ((bB r S).length:Nat),tupI S])/\ρ=[.sh (cutD r S)]:=by refine Yb (m_ (XU (m_ (U_ (S_ rfl (W_ (XA (v:=IL r S) ?_ rfl rfl rfl)))))));refine T_ (Yg (sY:=Dat.int) (xs:=bB r S) ?_ rfl);refine m_ (U_ (S_ rfl (W_ (XA (v:=tupI S) ?_ rfl rfl rfl))));exact T_ (XT ⟨rfl,rfl⟩ rfl rfl (by show 2<=SZ;unfold SZ;lia))
 obtain⟨v,ρ,e,rfl,rfl⟩:=w;unfold uX;rw[e];show (fN (S.map Dat.int)).map _=_;rw[nJ];rfl
theorem keys_map{g:List Int->List Int}(h:∀S,key (f S)=some (g S)):∀l:List (List Int),keysOf key (l.map f)=some (l.map g)
 |[]=>rfl
 |S::l=>by rw[eg,keysOf,h,keys_map h l];rfl
theorem vV(n k:Nat)(r:List Tie):(bu n k r).Nodup:=by unfold bu;refine List.Nodup.sublist U5 ?_;exact List.Nodup.sublist (List.tail_sublist _) (gy _)
theorem rP(n7:n<=7)(k:Nat)(r:List Tie):(bu n k r).length<=63:=by
 unfold bu;refine Tq (UA _ _) ?_;rw[List.length_tail,gM];have:2 ^ (n-1)<=2 ^ 6:=WG (by decide) (by lia)
 lia
noncomputable def jY(n k:Nat)(r:List Tie):List (List Int):=bg (fun a b=>lx (yw r a) (yw r b)) (bu n k r)
theorem gP(h:∀S,key (f S)=some (yw r S))(n10:n<=7)(k:Nat):gk 63 key [.lst ((bu n k r).map f)]=some (.new (.lst ((jY n k r).map f))):=by
 unfold gk;dsimp only;have hl:=rP n10 k r;rw[if_pos (by rw[Dk];lia),keys_map h];dsimp only;have nd:((bu n k r).map (yw r)).Nodup:=by refine Xr.map _ (fun a b M7 e=>M7 ?_) (vV n k r);exact(List.cons.inj e).2
 rw[if_pos nd,rO];have:(fun a b=>ltK key (f a) (f b))=fun a b=>lx (yw r a) (yw r b):=by
  funext a b
  exact gm (h a) (h b)
 rw[this];rfl
theorem IM(n k:Nat)(n1:1<=n)(n10:n<=7)(k1:1<=k)(k6:k<=6)(N:List Tie)(hN:Net n k N)(t:Int):nQ [jU n k N,.int t]=some (.new (.lst ((jY n k (bY N t)).map (cutD (bY N t))))):=by
 have hl:N.length<=60:=hN.1.len;have hs:=IG N t;have ends:Ends n (bY N t):=fun u hu=>hN.1.ends u (T3.mp hu).1;have M7:∀u∈bY N t,u.a<=u.b:=fun u hu=>(Good.mem hN.1.good u (T3.mp hu).1).2.1;have h5:=rP n10 k (bY N t);apply XM;unfold nQ
 (refine Dm.XG ?_ rfl rfl;and_intros)
 refine V_ (Yk (XH (m_ (S_ rfl (T_ (XO (vS n k n1 (by lia) k1 k6 N hN) ?_ rfl rfl))))));refine V_ (XE (XH (m_ (U_ (S_ rfl (W_ (XA (v:=az N) ?_ rfl rfl rfl)))))) (by decide));refine m_ (S_ rfl (T_ (XC (EJ N (by lia) t) (XI ?_ (by trivial)) rfl rfl rfl rfl)));refine V_ (XE ?_ (by decide));have ER:Wi (iS (eF vq [(e2 gIx (eV 0) (eC (.int 0))),(eV 2),(e2 gIx (eV 0) (eC (.int 1)))])) [.sh (jU n k N),.sh (.int t),.ow (az (bY N t)),.un] fun ds ρ=>ds=(bu n k (bY N t)).map tupI/\ρ=[.sh (jU n k N),.sh (.int t),.sh (az (bY N t)),.un]:=by refine Ym (XH (m_ (U_ (S_ rfl (W_ (XA (v:=.int (n:Nat)) ?_ rfl rfl rfl))))));refine m_ (XJ rfl (m_ (U_ (S_ rfl (W_ (XA (v:=.int (k:Nat)) ?_ rfl rfl rfl))))));exact T_ (XC (IK n k n1 (by lia) k1 _ ends M7 (by lia)) (X8 ⟨_,rfl,rfl,rfl⟩) rfl rfl rfl rfl)
 obtain⟨_,_,ER,rfl,rfl⟩:=ER;refine Yn tupI (bu n k (bY N t)) id (cutD (bY N t)) (XI ?_ (by trivial)) ER rfl (by decide) (by unfold SZ;lia) fun S hS=>?_
 rotate_left
 ·refine Yb (m_ (S_ rfl (m_ (XH (m_ (S_ rfl (m_ (S_ rfl (T_ (XC (tM (bY N t) (by lia) S) ?_ rfl rfl rfl rfl))))))))));exact T_ (XT (XD ⟨rfl,rfl⟩) rfl rfl (by show 2<=SZ;unfold SZ;lia))
 rw[UO];refine XQ (XU (m_ (XJ rfl (T_ ⟨_,_,rfl,gP (gO _) n10 k,YC ?_⟩))));rfl
theorem vW(r:List Tie)(t:Int)(L:List Int):bB (bY r t) L=(gW (fun x=>if x∈L then 1 else 0) t r).map (·.m):=by
 unfold bB bY gW;rw[Uw]
 congr 1
 refine Uk fun x _=>?_;unfold ovr;by_cases ha:x.a∈L<;>by_cases hb:x.b∈L<;>simp[ha,hb,WS]
theorem BS{n k:Nat}(n10:n<=7)(g:Good n 0 r)(al:bF k r ms)(t:Int):(jY n k (bY (keep r ms) t)).map (cutD (bY (keep r ms) t))=(jY n k (bY r t)).map (cutD (bY r t)):=by
 have one:∀L:List Int,bB (bY (keep r ms) t) L=bB (bY r t) L\/(k<=(bB (bY (keep r ms) t) L).length/\k<=(bB (bY r t) L).length):=fun L=>by
  rw[vW,vW];rcases rL k n (fun x=>if x∈L then 1 else 0) t r ms 0 g al with h | h
  ·exact .inl (by rw[h])
  ·refine .inr ⟨by rw[Dk];exact h,?_⟩;rw[Dk];refine Tq h ?_;exact((jV r ms).filter _).length_le
 have sm:bu n k (bY (keep r ms) t)=bu n k (bY r t):=by
  unfold bu;refine Uk fun L _=>?_;rcases one L with h | ⟨h1,h2⟩
  ·rw[h]
  ·rw[decide_eq_false (by lia),decide_eq_false (by lia)]
 have mp:(bu n k (bY (keep r ms) t)).map (cutD (bY (keep r ms) t))=(bu n k (bY r t)).map (cutD (bY r t)):=by
  rw[sm];refine UN fun L hL=>?_;have hs:=of_decide_eq_true (T3.mp hL).2;rcases one L with h | ⟨h1,h2⟩
  ·unfold cutD IL;rw[h]
  ·lia
 have e1:=gP (gO (bY (keep r ms) t)) n10 k;have e2:=gP (gO (bY r t)) n10 k;rw[mp,e2]at e1;injection e1 with e1
 injection e1 with e1
 injection e1 with e1
 exact e1.symm
theorem IP(l:List Int):jy (l.map Dat.int) (l.map Dat.int)=true:=by
 induction l with
 |nil=>rfl
 |cons a l ih=>rw[eg,jy,ih];simp[eqD]
theorem Nc(r:List Tie)(S:List Int):eqD (cutD r S) (cutD r S)=true:=by simp only[cutD,tupI,eqD,jy,IP,Bool.and_true,Xq]
theorem IQ(r:List Tie)(L:List (List Int)):eqD (.lst (L.map (cutD r))) (.lst (L.map (cutD r)))=true:=by
 rw[eqD]
 induction L with
 |nil=>rfl
 |cons a l ih=>rw[eg,jy,ih,Nc];rfl
theorem IS(r:List Tie)(L:List (List Int)):okD 8 (.lst (L.map (cutD r)))=true:=J4 _ L fun S=>by
 have h:∀(f:Nat) (l:List Int),(l.map Dat.int).all (okD (f+1))=true:=fun f l=>by rw[Ug];intro x hx;obtain⟨i,_,rfl⟩:=Td.mp hx;rfl
 simp only[cutD,tupI,okD,WQ,List.all_nil,h,Bool.and_true]
noncomputable def l3(t:Tie):List Int:=[t.m,t.a,t.b]
theorem Nd{t u:Tie}(h:l3 t=l3 u):t=u:=by
 cases t;cases u;unfold l3 at h;injection h with h1 h2
 injection h2 with h2 h3
 injection h3 with h3
 cases h1;cases h2;cases h3;rfl
theorem Ag(r:List Tie):az r=.lst ((r.map l3).map Bd):=by unfold az;rw[Uj];rfl
theorem EM{s t:List Int}(h:x<y):lx (y::t) (x::s)=false:=by rw[lx,if_neg (by lia)];exact decide_eq_false (by lia)
theorem BU(l:List (List Int)):(bg lx l).Pairwise fun a b=>lx b a=false:=bP (fun a b c h1 h2=>by
  cases h:lx c a
  ·rfl
  ·rcases sG c b a h with z | z
   ·rw[z]at h2;cases h2
   ·rw[z]at h1;cases h1) (fun a b h=>by
  cases h':lx b a
  ·rfl
  ·have:=eS a b a h h';rw[dH]at this;cases this) l
theorem IT{l m:List (List Int)}(p:l.Perm m)(h:l.Pairwise fun a b=>lx b a=false):bg lx m=l:=
 dX (lt:=lx) eT ((bA _ m).trans p.symm) (BU m) h
theorem rQ:∀(nss:List (List Int)),(∀ns∈nss,ns≠[])->ng (nss.map Bd)=some nss
 |[],_=>rfl
 |ns::nss,h=>by
  rw[eg];unfold Bd;rw[ng,nJ];dsimp only;have:ns.isEmpty=false:=by
   cases ns with
   |nil=>exact absurd rfl (h [] gV)
   |cons _ _=>rfl
  rw[this];simp only[Tc,if_false];have ih:=rQ nss fun x hx=>h x (gc _ hx);unfold Bd at ih;rw[ih];rfl
theorem EN[DecidableEq α]{l m:List α}(h1:l.Nodup)(h2:m.Nodup)(h:∀x,x∈l↔x∈m):l.Perm m:=by
 rw[List.perm_iff_count];intro a;rw[h1.count,h2.count];by_cases q:a∈l
 ·rw[if_pos q,if_pos ((h a).mp q)]
 ·rw[if_neg q,if_neg fun z=>q ((h a).mpr z)]
theorem kM:∀(ns tG:List (List Int)),tG.Nodup->(ns.foldl (fun tG x=>if tG.any (· == x) then tG else tG++[x]) tG).Nodup/\∀y,y∈ns.foldl (fun tG x=>if tG.any (· == x) then tG else tG++[x]) tG↔y∈tG\/y∈ns
 |[],tG,h=>⟨h,fun y=>by simp⟩
 |x::ns,tG,h=>by
  rw[Vx];by_cases q:x∈tG
  ·rw[if_pos (U6.mpr ⟨x,q,by simp⟩)];obtain⟨a,b⟩:=kM ns tG h;refine⟨a,fun y=>(b y).trans ⟨fun z=>z.imp id (gc _),fun z=>?_⟩⟩;rcases z with z | z
   ·exact .inl z
   ·rcases S4.mp z with rfl | z
    ·exact .inl q
    ·exact .inr z
  ·rw [if_neg fun z=>by
    obtain⟨y,hy,e⟩:=U6.mp z;have:y=x:=by simpa using e
    exact q (this▸hy)]
   obtain⟨a,b⟩:=kM ns (tG++[x]) (UE.mpr ⟨h,by simp,fun u hu v hv e=>by rw[Th.mp hv]at e;exact q (e▸hu)⟩);refine⟨a,fun y=>(b y).trans ?_⟩;simp only[Tp,S4,UQ,or_false];exact⟨fun z=>by rcases z with(z | z) | z;exact .inl z;exact .inr (.inl z);exact .inr (.inr z),fun z=>by rcases z with z | z | z;exact .inl (.inl z);exact .inl (.inr z);exact .inr z⟩
theorem BV(ns:List (List Int)):(fF ns).Nodup/\∀y,y∈fF ns↔y∈ns:=by obtain⟨a,b⟩:=kM ns [] List.nodup_nil;exact⟨a,fun y=>(b y).trans (by simp)⟩
theorem lY.nodup{D:List Tie}(h:lY D):(D.map l3).Nodup:=by
 refine U3.mpr (h.imp fun {t u} q z=>?_);have:=Nd z;subst this
 lia
theorem lY.sorted{D:List Tie}(h:lY D):(D.map l3).Pairwise fun a b=>lx b a=false:=by refine U3.mpr (h.imp fun {t u} q=>?_);exact EM q
theorem EO(h:lY D)(e:∀t,t∈D↔t∈T):(D.map l3).Perm (fF (T.map l3)):=by obtain⟨d1,d2⟩:=BV (T.map l3);refine EN h.nodup d1 fun x=>?_;rw[d2,Td,Td];exact⟨fun⟨t,a,b⟩=>⟨t,(e t).mp a,b⟩,fun⟨t,a,b⟩=>⟨t,(e t).mpr a,b⟩⟩
theorem Zs{o:Option Dat}(h:lY D)(e:∀t,t∈D↔t∈T)(hl:D.length<=63)(k:K (.new (az D)))(ho:o=some (az T)):Wg1 dI o K:=⟨_,_,ho,by rw[Ag];unfold dI;dsimp only;rw[rQ _ fun ns hn=>by obtain⟨t,_,rfl⟩:=Td.mp hn;exact List.cons_ne_nil _ _];dsimp only;have p:=EO h e;rw[if_pos (by rw[<- p.length_eq,Dk];exact hl),IT p h.sorted,<- Ag],k⟩
theorem ES(D:List Tie)(h:lY D)(hl:D.length<=75):zX [az D]=some (.val .non):=by
 apply XM;unfold zX
 (refine Dm.XG ?_ rfl rfl;and_intros)
 refine XY ?_
 ((with_reducible refine Dm.Yr ?_);(with_reducible refine Dm.W_ ?_);(refine Dm.cj.mk ?_);(with_reducible refine Dm.XU ?_);(with_reducible refine Dm.m_ ?_);((with_reducible apply Dm.S_);(focus rfl));(with_reducible refine Dm.T_ ?_);(refine Dm.YV ?_ rfl);(refine Dm.cj.mk ?_))
 refine⟨?_,?_⟩
 rotate_left
 ·rw[Dk];unfold BIG;lia
 rw[mq,Dk];refine XZ (fun i:Nat=>Dat.int (1+(i:Int))) _ _ (S3 ((D.length:Int)-1).toNat) _ _ _ _ _ (fun _ _ ρ=>∃c,ρ=[.sh (az D),c]) ⟨_,rfl⟩ ?_ ?_
 ·rintro p i q ρ e ⟨c,rfl⟩;refine Dm.bQ rfl (by trivial) ?_;have hi:i<((D.length:Int)-1).toNat:=by
   have:i∈S3 ((D.length:Int)-1).toNat:=by rw[e];simp
   exact Tw.mp this
  unfold Ej
  ((with_reducible refine Dm.XW ?_);(with_reducible refine Dm.XN ?_);(with_reducible refine Dm.U_ ?_);(with_reducible refine Dm.U_ ?_);(with_reducible refine Dm.U_ ?_);((with_reducible apply Dm.S_);(focus rfl));(with_reducible refine Dm.U_ ?_);((with_reducible apply Dm.S_);(focus rfl));(with_reducible refine Dm.W_ ?_);(refine Dm.X3 ?_ rfl rfl))
  refine Yv (sY:=aL) (xs:=D) (i:=1+(i:Int)-1) (by lia) (by lia) ?_ rfl rfl
  ((with_reducible refine Dm.W_ ?_);(refine Dm.XA ?_ rfl rfl rfl);(with_reducible refine Dm.U_ ?_);(with_reducible refine Dm.U_ ?_);((with_reducible apply Dm.S_);(focus rfl));((with_reducible apply Dm.S_);(focus rfl)))
  refine Yv (sY:=aL) (xs:=D) (i:=1+(i:Int)) (by lia) (by lia) ?_ rfl rfl
  ((with_reducible refine Dm.W_ ?_);(refine Dm.XA ?_ rfl rfl rfl);(refine Dm.X_ ?_ rfl rfl);(refine Dm.XF ?_))
  have lt:=Ul.mp h (1+(i:Int)-1).toNat (1+(i:Int)).toNat (by lia) (by lia) (by lia);refine XS (decide_eq_false (by lia)) ?_
  ((with_reducible refine Dm.XX ?_))
  exact⟨_,rfl⟩
 ·rintro ρ ⟨c,rfl⟩;rfl
theorem nX(n:Int)(n1:1<=n)(n10:n<=10):zT [.int n]=some (.val .non):=by
 apply XM;unfold zT
 (refine Dm.XG ?_ rfl rfl;and_intros)
 ((with_reducible refine Dm.XW ?_);(with_reducible refine Dm.Yj ?_);(with_reducible refine Dm.XN ?_);(with_reducible refine Dm.XH ?_);(with_reducible refine Dm.m_ ?_);((with_reducible apply Dm.S_);(focus rfl));(with_reducible refine Dm.T_ ?_))
 refine XO (jW n n1 n10) ?_ rfl rfl
 ((refine Dm.XF ?_))
 refine XS rfl ?_
 ((with_reducible refine Dm.XX ?_))
 rfl
noncomputable def dS(t:Tie):Tie:=⟨t.m,if t.b<t.a then t.b else t.a,if t.b>t.a then t.b else t.a⟩
noncomputable def trn(t:Tie):Tie:=⟨t.m,t.b,t.a⟩
theorem nY(h:t.a<=t.b):dS t=t:=by
 cases t with
 |mk m a b=>
  have h:a<=b:=h;unfold dS;dsimp only
  congr 1
  ·rw[if_neg (by lia)]
  ·split<;>lia
theorem IU(t:Tie):dS (trn t)=dS t:=by
 unfold dS trn;dsimp only
 congr 1
 ·split<;>split<;>lia
 ·split<;>split<;>lia
theorem BW(t:Tie):t=dS t\/t=trn (dS t):=by
 cases t with
 |mk m a b=>
  unfold dS trn;dsimp only;by_cases h:b<a
  ·right;rw[if_pos h,if_neg (by lia)]
  ·left;rw[if_neg h]
   congr 1
   split<;>lia
theorem m7(t:Tie):zW [aL t]=some (.val (aL (dS t))):=by
 apply XM;unfold zW
 (refine Dm.XG ?_ rfl rfl;and_intros)
 ((with_reducible refine Dm.XQ ?_);(with_reducible refine Dm.Yb ?_);(with_reducible refine Dm.m_ ?_);(with_reducible refine Dm.U_ ?_);((with_reducible apply Dm.S_);(focus rfl));(with_reducible refine Dm.W_ ?_);(refine Dm.XA ?_ rfl rfl rfl);(with_reducible refine Dm.m_ ?_);(with_reducible refine Dm.XU ?_);(with_reducible refine Dm.m_ ?_);(with_reducible refine Dm.U_ ?_);((with_reducible apply Dm.S_);(focus rfl));(with_reducible refine Dm.W_ ?_);(refine Dm.XA ?_ rfl rfl rfl);(with_reducible refine Dm.m_ ?_);(with_reducible refine Dm.U_ ?_);((with_reducible apply Dm.S_);(focus rfl));(with_reducible refine Dm.W_ ?_);(refine Dm.XA ?_ rfl rfl rfl);(with_reducible refine Dm.T_ ?_);(refine Dm.Yy ?_ rfl);(with_reducible refine Dm.m_ ?_);(with_reducible refine Dm.XU ?_);(with_reducible refine Dm.m_ ?_);(with_reducible refine Dm.U_ ?_);((with_reducible apply Dm.S_);(focus rfl));(with_reducible refine Dm.W_ ?_);(refine Dm.XA ?_ rfl rfl rfl);(with_reducible refine Dm.m_ ?_);(with_reducible refine Dm.U_ ?_);((with_reducible apply Dm.S_);(focus rfl));(with_reducible refine Dm.W_ ?_);(refine Dm.XA ?_ rfl rfl rfl);(with_reducible refine Dm.T_ ?_);(refine Dm.Yz ?_ rfl);(with_reducible refine Dm.T_ ?_);(refine Dm.XT ?_ rfl (by trivial) (by exact Ud rfl));(refine Dm.YW ?_))
 rfl
structure Tok(n:Int)(T:List Tie):Prop where
 ok:∀t∈T,0<=t.m/\t.m<=Z30/\0<=t.a/\t.a<n/\0<=t.b/\t.b<n
 len:T.length<=1000
theorem tN(n:Int)(n1:1<=n)(n10:n<=10)(T D:List Tie)(hT:Tok n T)(h:lY D)(e:∀t,t∈D↔t∈T.map dS)(hl:D.length<=60):zY [.int n,az T]=some (.new (az D)):=by
 have sz:1000<=SZ:=by decide
 have tl:=hT.len;apply XM;unfold zY
 (refine Dm.XG ?_ rfl rfl;and_intros)
 ((with_reducible refine Dm.V_ ?_);(with_reducible refine Dm.Yk ?_);(with_reducible refine Dm.XH ?_);(with_reducible refine Dm.m_ ?_);((with_reducible apply Dm.S_);(focus rfl));(with_reducible refine Dm.T_ ?_))
 refine XO (nX n n1 n10) ?_ rfl rfl
 ((with_reducible refine Dm.V_ ?_);(with_reducible refine Dm.XW ?_);(with_reducible refine Dm.Yu ?_);(with_reducible refine Dm.Yj ?_);(with_reducible refine Dm.XN ?_);(with_reducible refine Dm.Yt ?_);((with_reducible apply Dm.S_);(focus rfl));(refine Dm.Yp ?_ rfl rfl);(refine Dm.XF ?_))
 refine XS rfl ?_
 ((with_reducible refine Dm.Yj ?_);(with_reducible refine Dm.XN ?_);(with_reducible refine Dm.XU ?_);(with_reducible refine Dm.m_ ?_))
 refine Ye aL T (fun _=>true) Dat.bl ?_ rfl rfl rfl (by decide) (by lia) (fun t ht=>?_)
 rotate_left
 ·obtain⟨h1,h2,h3,h4,h5,h6⟩:=hT.ok t ht
  ((with_reducible refine Dm.XH ?_);(with_reducible refine Dm.m_ ?_);((with_reducible apply Dm.S_);(focus rfl));(with_reducible refine Dm.m_ ?_);((with_reducible apply Dm.S_);(focus rfl));(with_reducible refine Dm.T_ ?_))
  refine XO (rM n t h1 h2 h3 h4 h5 h6) ?_ rfl rfl
  ((refine Dm.XD ?_))
  exact⟨rfl,rfl⟩
 ((with_reducible refine Dm.T_ ?_))
 refine YS (fun b=>b) (xs:=T.map fun _=>true) ?_ rfl
 ((refine Dm.XF ?_))
 refine XS (by simp) ?_
 ((with_reducible refine Dm.XX ?_);(with_reducible refine Dm.V_ ?_);(with_reducible refine Dm.XE ?_ (by decide));(with_reducible refine Dm.Yt ?_))
 refine Ye aL T dS aL ?_ rfl rfl rfl (by decide) (by lia) (fun t ht=>?_)
 rotate_left
 ·((with_reducible refine Dm.XH ?_);(with_reducible refine Dm.m_ ?_);((with_reducible apply Dm.S_);(focus rfl));(with_reducible refine Dm.T_ ?_))
  refine XC (m7 t) ?_ rfl rfl rfl (by trivial)
  ((refine Dm.XD ?_))
  exact⟨rfl,rfl⟩
 refine Zs h e (by lia) ?_ rfl
 ((refine Dm.XI ?_ (by trivial));(with_reducible refine Dm.V_ ?_);(with_reducible refine Dm.XW ?_);(with_reducible refine Dm.XN ?_);(with_reducible refine Dm.U_ ?_);(with_reducible refine Dm.XU ?_);(with_reducible refine Dm.m_ ?_);((with_reducible apply Dm.XJ);(focus rfl));(with_reducible refine Dm.T_ ?_);(refine Dm.YV ?_ rfl);(with_reducible refine Dm.W_ ?_);(refine Dm.Yd ?_ rfl rfl);(refine Dm.XF ?_))
 refine XS (decide_eq_false (by rw[Dk];lia)) ?_
 ((with_reducible refine Dm.XX ?_);(with_reducible refine Dm.V_ ?_);(with_reducible refine Dm.Yk ?_);(with_reducible refine Dm.XH ?_);(with_reducible refine Dm.m_ ?_);((with_reducible apply Dm.XJ);(focus rfl));(with_reducible refine Dm.T_ ?_))
 refine XO (ES D h (by lia)) ?_ rfl rfl
 ((with_reducible refine Dm.XQ ?_);((with_reducible apply Dm.XJ);(focus rfl));(refine Dm.X0 ?_ rfl))
 rfl
theorem Zx{ej e:FE}{ρ:Env}{N:Env->Prop}{R:RV->Env->Prop}{B C:Env->Prop}{ds0:List Dat}(h:Was [ej,e] ρ fun xs ρ1=>∃j x,xs=[.val (.int j),x]/\Wk ρ1 x fun d ρ2=>∃ds ρ3,ρ2[i]?=some (.ow (.lst ds))/\(0<=j/\j<=ds.length/\ds.length<SZ)/\ρ2.set i (.ow (.lst (ds.take j.toNat++d::ds.drop j.toNat)))=ρ3/\N ρ3)(h0:ρ[i]?=some (.ow (.lst ds0))):Ws (u6 i ej e) ρ N R B C:=by obtain⟨xs,ρ1,e1,j,x,rfl,d,ρ2,e2,ds,ρ3,e3,hb,e4,n⟩:=h;refine⟨.nx ρ3,?_,n⟩;unfold u6;rw[h0];dsimp only;rw[e1];dsimp only;rw[e2];dsimp only;rw[e3];dsimp only;rw[if_pos hb,e4]
theorem ET(T:List Tie)(u:Tie)(j:Nat):(T.map aL).take j++aL u::(T.map aL).drop j=(T.take j++u::T.drop j).map aL:=by rw[Tv,eg,List.map_take,List.map_drop]
theorem Ah(T:List Tie)(u t:Tie)(j:Nat):t∈(T.take j++u::T.drop j).map dS↔t=dS u\/t∈T.map dS:=by
 have e:((T.take j++u::T.drop j)).Perm (u::T):=by refine List.perm_middle.trans ?_;rw[VG]
 rw[(e.map dS).mem_iff,eg,S4]
theorem Ai(T:List Tie)(u:Tie)(j:Nat):(T.take j++u::T.drop j).length=T.length+1:=by rw[Tg,TV,Uo,Vo];lia
theorem BX(x:Int)(r:List Tie)(hr:∀t∈r,t.a<=t.b)(hl:r.length<=60):∃(T:List Tie) (x':Int),vC [bq x,az r]=some (.new (az T),bq x')/\(∀t,t∈T.map dS↔t∈r)/\T.length<=2*r.length:=by
 suffices hh:WrM (vC [bq x,az r]) fun v p=>∃(T:List Tie) (x':Int),v=.new (az T)/\p=bq x'/\(∀t,t∈T.map dS↔t∈r)/\T.length<=2*r.length by obtain⟨v,p,h1,T,x',rfl,rfl,h2⟩:=hh;exact⟨T,x',h1,h2⟩
 unfold vC;refine YF ?_ rfl rfl;and_intros;refine V_ (XE (Yc (T_ (XT (XI ?_ (by trivial)) rfl rfl (by decide)))) (by decide));refine V_ (XY (Ym (S_ rfl (XD ⟨_,rfl,?_⟩))));refine XZ aL _ _ r _ _ _ _ _ (fun p q ρ=>∃(T:List Tie) (x:Int) (c3 c4 c5 c6:Cell),((∀t,t∈T.map dS↔t∈p)/\T.length<=2*p.length)/\ρ=[.ow (bq x),.sh (az r),.ow (az T),c3,c4,c5,c6]) ⟨[],x,_,_,_,_,⟨by simp,by simp⟩,rfl⟩ ?_ ?_
 ·rintro p t q ρ e ⟨T,x,c3,c4,c5,c6,⟨hT,lT⟩,rfl⟩;have ht:t.a<=t.b:=hr t (by rw[e];simp);have hp:p.length<=60:=by rw[e,Tg]at hl;lia
  refine⟨[.ow (bq x),.sh (az r),.ow (az T),.sh (.int t.m),.sh (.int t.a),.sh (.int t.b),c6],rfl,?_⟩;unfold Ep;refine X7 (fun ρ=>∃(u:Tie) (x:Int),dS u=t/\ρ=[.ow (bq x),.sh (az r),.ow (az T),.sh (.int t.m),.sh (.int t.a),.sh (.int t.b),.sh (aL u)]) ?_ ?_
  ·refine XE (U_ (Yc (m_ (Yb (m_ (S_ rfl (m_ (S_ rfl (m_ (S_ rfl (T_ (XT ?_ rfl rfl (by show 3<=SZ;unfold SZ;lia))))))))))))) (by decide);refine m_ (Yb (m_ (S_ rfl (m_ (S_ rfl (m_ (S_ rfl (T_ (XT ?_ rfl rfl (by show 3<=SZ;unfold SZ;lia))))))))));refine T_ (XT ?_ rfl rfl (by show 2<=SZ;unfold SZ;lia));refine X6 (m:=2) rfl (by decide) (by decide) rfl fun i x1 i0 i1 ρ3 e=>?_;subst e;have:i=0\/i=1:=by lia
   rcases this with rfl | rfl
   ·exact XA (v:=aL t) (XR ⟨t,x1,nY ht,rfl⟩ (by trivial)) rfl rfl rfl
   ·exact XA (v:=aL (trn t)) (XR ⟨trn t,x1,by rw[IU,nY ht],rfl⟩ (by trivial)) rfl rfl rfl
  rintro ρ ⟨u,x1,hu,rfl⟩;have insert:∀(T:List Tie) (x:Int) (c:Cell) (e:FE) (v:Tie) {N:Env->Prop} {R:RV->Env->Prop} {B C:Env->Prop},T.length<=200->(∀x,e [.ow (bq x),.sh (az r),.ow (az T),.sh (.int t.m),.sh (.int t.a),.sh (.int t.b),c]=some (.val (aL v),[.ow (bq x),.sh (az r),.ow (az T),.sh (.int t.m),.sh (.int t.a),.sh (.int t.b),c])) ->
    (∀(j:Nat) (x:Int),N [.ow (bq x),.sh (az r),.ow (az (T.take j++v::T.drop j)),.sh (.int t.m),.sh (.int t.a),.sh (.int t.b),c])->Ws (u6 2 (eFm b_ 0 [(e2 dw (eB cG [(eV 2)]) (eC (.int 1)))]) e) [.ow (bq x),.sh (az r),.ow (az T),.sh (.int t.m),.sh (.int t.a),.sh (.int t.b),c] N R B C:=fun T x c e v {N R B C} hT he n=>by
   refine Zx (ds0:=T.map aL) ?_ rfl;refine m_ (YB (U_ (XU (m_ (XJ rfl (T_ (Yg (sY:=aL) (xs:=T) ?_ rfl)))))) rfl);refine W_ (X5 (cj.mk (mj ?_ rfl rfl (by lia) (by unfold jA;lia))) rfl rfl);have hm:=dF x ((T.length:Int)+1) (by lia);refine m_ ⟨_,_,he _,T_ ⟨_,_,rfl,XD ⟨T.map aL,_,rfl,⟨hm.1,by rw[Dk];lia,by rw[Dk];unfold SZ;lia⟩,rfl,?_⟩⟩⟩;rw[ET];exact n _ _
  refine V_ (insert T x1 _ _ u (by lia) (fun _=>rfl) fun j x2=>?_);have m1:∀s,s∈(T.take j++u::T.drop j).map dS↔s∈p++[t]:=fun s=>by rw[Ah,hT,hu,Tp,Th];exact Or.comm
  have l1:=Ai T u j
  generalize T.take j++u::T.drop j=T1 at m1 l1
  refine XW (XN (U_ (X6 (m:=4) rfl (by decide) (by decide) rfl fun i x3 i0 i1 ρ3 e=>?_)));subst e;refine W_ (X_ (XF ⟨fun _=>?_,fun _=>XX ⟨T1,x3,_,_,_,_,⟨m1,by rw[Tg];simp;lia⟩,rfl⟩⟩) rfl rfl);refine insert T1 x3 _ _ t (by lia) (fun _=>rfl) fun j x4=>⟨T1.take j++t::T1.drop j,x4,_,_,_,_,⟨fun s=>?_,by rw[Ai,Tg];simp;lia⟩,rfl⟩;rw[Ah,m1,nY ht,Tp,Th];exact⟨fun h=>h.elim .inr id,.inr⟩
 ·rintro ρ ⟨T,x',c3,c4,c5,c6,⟨hT,lT⟩,rfl⟩;exact XQ (XJ rfl (X0 ⟨_,rfl,T,x',rfl,rfl,hT,lT⟩ rfl))
theorem range_add(a b:Nat):S3 (a+b)=S3 a++(S3 b).map (a+·):=List.range_add
theorem Nf{p x:Nat}(h:x<2 ^ p):x / 2 ^ p % 2=0:=by rw[W3 h]
theorem IV{p q x:Nat}(h:q<p):(2 ^ p+x) / 2 ^ q % 2=x / 2 ^ q % 2:=by
 have e:2 ^ p=2 ^ q*(2*2 ^ (p-q-1)):=by
  rw[<- Nat.pow_succ',<- Nat.pow_add]
  congr 1
  lia
 rw[e,Nat.mul_add_div (Xe q),Nat.mul_add_mod]
theorem IW{p x:Nat}(h:x<2 ^ p):(2 ^ p+x) / 2 ^ p % 2=1:=by rw[Nat.add_div_left _ (Xe p),W3 h]
theorem rR:∀p:Nat,bL p=(S3 (2 ^ p)).map (lX (p+1))
 |0=>rfl
 |p+1=>by
  rw[bL,rR p,Xx,Nat.mul_two,range_add,Tv,Uj,Uj]
  congr 1
  ·refine UN fun x hx=>?_;have hx:=Tw.mp hx;show lX (p+1) x=lX (p+2) x;unfold lX;show ((S3 p).filter _).map _=((S3 (p+1)).filter _).map _;rw[Wy,VZ,TX,if_neg (by simp[Nf hx]),List.filter_nil,Uu]
  ·refine UN fun x hx=>?_;have hx:=Tw.mp hx;show lX (p+1) x++[((p+1:Nat):Int)]=lX (p+2) (2 ^ p+x);unfold lX;show ((S3 p).filter _).map _++_=((S3 (p+1)).filter _).map _;rw[Wy,VZ,TX,if_pos (by simp[IW hx]),List.filter_nil,Tv]
   congr 1
   ·congr 1
    refine Uk fun q hq=>?_;rw[IV (Tw.mp hq)]
   ·simp;lia
theorem BY(n1:1<=n):((S3 (2 ^ (n-1)-1)).map fun x=>lX n (1+x))=(bL (n-1)).tail:=by
 obtain⟨m,rfl⟩:∃m,n=m+1:=⟨n-1,by lia⟩
 rw[show m+1-1=m by lia,rR m];have h:2 ^ m=1+(2 ^ m-1):=by have:=Xe m;lia
 conv=>rhs;rw[h,range_add]
 rw[Tv,Uj];rfl
theorem vX{r K:List Tie}(h:Kept r k r K)(L:List Int):bB K L=bB r L\/(k<=(bB K L).length/\k<=(bB r L).length):=by
 have h1:=h.low fun q=>decide (q∈L);rw[<- rJ,<- rJ]at h1;have hs:(K.filter (ovr L)).Sublist (r.filter (ovr L)):=h.sub.filter _;by_cases hk:k<=(bB r L).length
 ·exact .inr ⟨by lia,hk⟩
 ·refine .inl ?_;unfold bB at *;rw[Dk,Dk]at h1;rw[Dk]at hk;rw[hs.eq_of_length_le (by lia)]
theorem nZ{n k:Nat}(n10:n<=7){r K:List Tie}(one:∀L:List Int,bB K L=bB r L\/(k<=(bB K L).length/\k<=(bB r L).length)):(jY n k K).map (cutD K)=(jY n k r).map (cutD r):=by
 have sm:bu n k K=bu n k r:=by
  unfold bu;refine Uk fun L _=>?_;rcases one L with h | ⟨h1,h2⟩
  ·rw[h]
  ·rw[decide_eq_false (by lia),decide_eq_false (by lia)]
 have mp:(bu n k K).map (cutD K)=(bu n k r).map (cutD r):=by
  rw[sm];refine UN fun L hL=>?_;have hs:=of_decide_eq_true (T3.mp hL).2;rcases one L with h | ⟨h1,h2⟩
  ·unfold cutD IL;rw[h]
  ·lia
 have e1:=gP (gO K) n10 k;have e2:=gP (gO r) n10 k;rw[mp,e2]at e1;injection e1 with e1
 injection e1 with e1
 injection e1 with e1
 exact e1.symm
theorem Rcd.fit(n10:n<=10)(h:Rcd n r):Fit n r:=⟨by lia,fun t ht=>Good.pl h.good t ht,Good.nd h.good,by have:=h.len;lia⟩
theorem Aj(aH aW:Nat)(n10:n<=10)(hr:Rcd n r)(k1:1<=k)(k6:k<=6):∃K,vD aH aW [.int n,az r,.int k]=some (.new (az K))/\Kept r k r K:=by
 obtain⟨K,d1,d2,ep,hK⟩:=ED aH aW (hr.fit n10) k1 k6;refine⟨K,?_,hK⟩;have lr:=hr.len;apply XM;unfold vD
 (refine Dm.XG ?_ rfl rfl;and_intros)
 refine V_ (XE (U_ (XH (m_ (S_ rfl (m_ (XU (m_ (S_ rfl (T_ (YK (xs:=r.map aL) ?_ rfl)))))))))) (by decide));refine m_ (S_ rfl (T_ (XC ep ?_ rfl rfl rfl rfl)));refine W_ (XA (v:=msI K) (XR ?_ (by trivial)) rfl rfl rfl);refine XQ (Ys aL r (fun t=>decide (t.m∈K.map (·.m))) id aL (d:=az r) (YC ?_) rfl rfl rfl (by decide) (by unfold SZ;lia) (fun t _=>?_) fun t _ _=>?_)
 ·rw[UO,yu hK.sub (Good.nd hr.good)];rfl
 ·exact XN (U_ (U_ (S_ rfl (W_ (XA (v:=.int t.m) (S_ rfl (Zq (xs:=K.map (·.m)) (XF ⟨rfl,rfl⟩) rfl rfl)) rfl rfl rfl)))))
 ·exact S_ rfl (XD ⟨rfl,rfl⟩)
theorem ZH{f:FE}(h:We f ρ1 Q)(hj:ρ[j]?=some (.ow d))(hn:ρ.set j (.sh d)=ρ1):We (kG j f) ρ Q:=by obtain⟨v,ρ',h1,q⟩:=h;refine⟨v,ρ',?_,q⟩;unfold kG;rw[hj];dsimp only;rw[hn];exact h1
theorem ix2(i:Int)(h0:0<=i)(h:i<2):∃v:Int,gIx (.lst [.int 3,.int 6]) (.int i)=some (.val (.int v))/\1<=v/\v<=6:=by
 have:i=0\/i=1:=by lia
 rcases this with rfl | rfl<;>exact⟨_,rfl,by decide,by decide⟩
noncomputable abbrev n5(n k:Nat)(r:List Tie):Dat:=.lst ((jY n k r).map (cutD r))
theorem n6{n k:Nat}(n1:1<=n)(n10:n<=7)(k1:1<=k)(k6:k<=6)(hr:Rcd n r):∃ms,bF k r ms/\nN [.int (n:Nat),az r,.int (k:Nat)]=some (.val (jU n k (keep r ms)))/\nQ [jU n k (keep r ms),.int 0]=some (.new (n5 n k r))/\n5 n k (keep r ms)=n5 n k r/\Rcd n (keep r ms):=by
 have lr:=hr.len;obtain⟨ms,_,al⟩:=h_ n k (by lia) k1 k6 r hr.ends (by lia);have Ng:=Na n k (by lia) k1 k6 r ms hr.ends (by lia) al;have sK:=jV r ms;have net:Net n k (keep r ms):=⟨hr.sub sK,_,vQ al,fun z=>by simpa using(T3.mp z).2⟩
 have ec:=IM n k n1 n10 k1 k6 (keep r ms) net 0;have same:=BS n10 hr.good al 0;rw[same,tL hr.good (Wd _)]at ec;rw[tL hr.good (Wd _),tL (hr.sub sK).good (Wd _)]at same;exact⟨ms,al,Ng,ec,by show Dat.lst _=Dat.lst _;rw[same],hr.sub sK⟩
noncomputable abbrev E10(S:List Int)(x:Int)(n:Nat)(i:Int)(k:Nat)(a b c d e:Cell):Env:=[.sh (.lst (S.map Dat.int)),.ow (bq x),.sh (.int (n:Nat)),.sh (.int i),.sh (.int (k:Nat)),a,b,c,d,e]
theorem EU(aH aW:Nat){ns:List Int}{at_:Int}(n1:1<=n)(n10:n<=7)(a0:0<=at_)(a1:at_<1000)(c1 c4 c5 c6 c7 c8 c9:Cell)
  {Nx:Env->Prop} {B C:Env->Prop} {R:RV->Env->Prop} (nx:∀c1 c4 c5 c6 c7 c8 c9,Nx [.sh (.lst (ns.map Dat.int)),c1,.sh (.int n),.sh (.int at_),c4,c5,c6,c7,c8,c9]) :
  Ws (yl aH aW) [.sh (.lst (ns.map Dat.int)),c1,.sh (.int n),.sh (.int at_),c4,c5,c6,c7,c8,c9] Nx R B C:=by
 obtain⟨x0,ep⟩:=Ab ns at_ a0 a1;unfold yl;refine V_ (XE (XH (m_ (S_ rfl (m_ (S_ rfl (T_ (XC ep ?_ rfl rfl rfl rfl))))))) (by decide));refine XI ?_ (by trivial);refine X7 (fun ρ=>∃(k:Nat) (x:Int),(1<=k/\k<=6)/\ρ=E10 ns x n at_ k c5 c6 c7 c8 c9) ?_ ?_
 ·refine XE (U_ (W_ ?_)) (by decide);refine YB (U_ (Yc (m_ (W_ (m_ (W_ (T_ (XT ?_ rfl rfl (by exact Ud rfl))))))))) rfl;refine X6 (m:=2) rfl (by decide) (by decide) rfl fun i x1 i0 i1 ρ3 e=>?_;subst e;obtain⟨v,hv,v1,v2⟩:=ix2 i i0 i1;refine XA (cj.mk (mj ?_ rfl rfl (by lia) (by unfold jA;lia))) rfl rfl hv;refine X5 (XR ?_ (by trivial)) rfl rfl;have hm:=dF x1 v v1;refine⟨(1+x1 % v).toNat,x1 / v,by lia,?_⟩;have:(((1+x1 % v).toNat:Nat):Int)=1+x1 % v:=by lia
  unfold E10;rw[this]
 rintro ρ ⟨k,x1,⟨k1,k6⟩,rfl⟩;refine X7 (fun ρ=>∃(r:List Tie) (x:Int),Rcd n r/\ρ=E10 ns x n at_ k (.ow (az r)) c6 c7 c8 c9) ?_ ?_
 ·obtain⟨r,x3,er,hg,hl,hm⟩:=BF x1 n 14 (by lia) (by lia) (by decide) (by decide);refine XE (YQ (m_ (S_ rfl (m_ (W_ (T_ (YA er ?_ rfl rfl rfl)))))) rfl) (by decide);exact XI ⟨r,x3,Rcd.of hg (by lia) hm,rfl⟩ (by trivial)
 rintro ρ ⟨r,x2,hr,rfl⟩;have lr:=hr.len;obtain⟨T,x3,et,hT,lT⟩:=BX x2 r (fun t ht=>(hr.ok t ht).2.2.2.1) lr;have SA:=tN n (by lia) (by lia) T r ⟨fun t ht=>by
   have hm:=(hT (dS t)).mp (Td.mpr ⟨t,ht,rfl⟩);obtain⟨q1,q2,q3,q4,q5⟩:=hr.ok _ hm;rcases BW t with e | e
   ·rw[e];exact⟨q1,q2,q3,by lia,by lia,q5⟩
   ·rw[e];exact⟨q1,q2,by show 0<=(dS t).b;lia,q5,q3,by show (dS t).a<_;lia⟩,by lia⟩ hr.up (fun t=>(hT t).symm) lr
 obtain⟨ms,al,Ng,SD,QC,hN⟩:=n6 n1 n10 k1 k6 hr;obtain⟨K,ek,hK⟩:=Aj aH aW (by lia) hr k1 k6;have rK:Rcd n K:=hr.sub hK.sub;obtain⟨ms1,_,QD,Kd,_,_⟩:=n6 n1 n10 k1 k6 rK;have s1:n5 n k K=n5 n k r:=by show Dat.lst _=Dat.lst _;rw[nZ n10 (vX hK)]
 rw[s1]at Kd;obtain⟨K2,ek2,hK2⟩:=Aj aH aW (by lia) hN k1 k6;have rK2:Rcd n K2:=hN.sub hK2.sub;obtain⟨ms2,_,QE,Ke,_,_⟩:=n6 n1 n10 k1 k6 rK2;have s2:n5 n k K2=n5 n k r:=by rw[<- QC];show Dat.lst _=Dat.lst _;rw[nZ n10 (vX hK2)]
 rw[s2]at Ke;have lK2:K2.length<=(keep r ms).length:=hK2.sub.length_le;have ht5:(bL (n-1)).tail.length<=512:=by
  rw[List.length_tail,gM];have:=EK (p:=n-1) (by lia)
  lia
 refine V_ (XE (ZH ?_ rfl (by trivial)) (by decide));refine XH (m_ (S_ rfl (m_ (YQ (m_ (S_ rfl (T_ (YA et ?_ rfl rfl (by trivial))))) rfl))));refine T_ (XC SA (XI ?_ (by trivial)) rfl rfl rfl (by trivial));refine V_ (XE (XH (m_ (S_ rfl (m_ (XJ rfl (m_ (S_ rfl (T_ (XC Ng (XR ?_ (by trivial)) rfl rfl rfl (by trivial)))))))))) (by decide));refine V_ (XE ?_ (by decide));have ER:Wi (iS (eF vA [(eV 2)])) (E10 ns x3 n at_ k (.sh (az r)) (.sh (az r)) (.sh (jU n k (keep r ms))) c8 c9) fun ds ρ=>ds=(bL (n-1)).tail.map tupI/\ρ=E10 ns x3 n at_ k (.sh (az r)) (.sh (az r)) (.sh (jU n k (keep r ms))) c8 c9:=by refine Ym (XH (m_ (S_ rfl (T_ (XC (EF n n1 (by lia)) (X8 ⟨_,rfl,?_,rfl⟩) rfl rfl rfl rfl)))));rw[BY n1]
 obtain⟨_,_,ER,rfl,rfl⟩:=ER;refine YM tupI (bL (n-1)).tail (fun S=>decide ((bB r S).length<k)) (cutD r) (XI ?_ (by trivial)) ER rfl (by decide) (by unfold SZ;lia) (fun S _=>?_) fun S _ _=>?_
 rotate_left
 ·refine XN (U_ (XU (m_ (XH (m_ (S_ rfl (m_ (S_ rfl (T_ (XC (EE r (by lia) S) ?_ rfl rfl rfl rfl))))))))));refine T_ (Yg (sY:=Dat.int) (xs:=bB r S) ?_ rfl);refine S_ rfl (Yo (XF ⟨?_,rfl⟩) rfl rfl);exact decide_eq_decide.mpr (by lia)
 ·refine Yb (m_ (S_ rfl (m_ (XH (m_ (S_ rfl (m_ (S_ rfl (T_ (XC (EE r (by lia) S) ?_ rfl rfl rfl rfl))))))))));exact T_ (XT (XD ⟨rfl,rfl⟩) rfl rfl (by show 2<=SZ;unfold SZ;lia))
 refine V_ (XE (XU (m_ (XJ rfl (T_ ⟨_,_,rfl,gP (gO r) n10 k,XI ?_ (by trivial)⟩)))) (by decide));have ok:=IS r (jY n k r);have eq:=IQ r (jY n k r);refine V_ (XW (Yu (XN (U_ (S_ rfl (S_ rfl (YE (M_ r) (M9 r) (XF (Yl ?_)) rfl rfl)))))));refine Yu (XN (U_ (XH (m_ (S_ rfl (T_ (XC (ds:=[jU n k (keep r ms)]) SD (XJ rfl (YE ok eq (XF (Yl ?_)) rfl rfl)) rfl rfl rfl rfl)))))));refine XN (U_ (XH (m_ (XH (m_ (S_ rfl (m_ (XH (m_ (S_ rfl (m_ (S_ rfl (m_ (S_ rfl (T_ (XC ek ?_ rfl rfl rfl rfl))))))))))))))));refine m_ (S_ rfl (T_ (XC QD ?_ rfl rfl rfl rfl)));refine T_ (XC (ds:=[jU n k (keep K ms1)]) Kd (XJ rfl (YE ok eq (XF (Yl (XX ?_))) rfl rfl)) rfl rfl rfl rfl);refine V_ (XE (XH (m_ (S_ rfl (m_ (U_ (S_ rfl (W_ (XA (v:=az (keep r ms)) ?_ rfl rfl rfl)))))))) (by decide));refine m_ (S_ rfl (T_ (XC ek2 (XI ?_ (by trivial)) rfl rfl rfl rfl)));refine XW (Yu (XN (U_ (XU (m_ (XJ rfl (T_ (Yg (sY:=aL) (xs:=K2) ?_ rfl))))))));refine XU (m_ (U_ (S_ rfl (W_ (XA (v:=az (keep r ms)) ?_ rfl rfl rfl)))));refine T_ (Yg (sY:=aL) (xs:=keep r ms) ?_ rfl);refine Yd (XF (XS (decide_eq_false (by lia)) ?_)) rfl rfl;refine XN (U_ (XH (m_ (XH (m_ (S_ rfl (m_ (XJ rfl (m_ (S_ rfl (T_ (XC QE ?_ rfl rfl rfl (by trivial)))))))))))));refine T_ (XC (ds:=[jU n k (keep K2 ms2)]) Ke (XJ rfl (YE ok eq (XF (Yl (XX ?_))) rfl rfl)) rfl rfl rfl rfl);exact nx _ _ _ _ _ _ _
theorem math(aH aW:Nat)(ns:List Int)(h:ns.length<=63):rF aH aW [.lst (ns.map Dat.int)]=some (.val (.bl true)):=by
 apply XM;unfold rF
 (refine Dm.XG ?_ rfl rfl;and_intros)
 obtain⟨x0,ep⟩:=Ab ns 0 (by decide) (by decide);refine V_ (XE (XH (m_ (S_ rfl (m_ (W_ (T_ (XC ep (XI ?_ (by trivial)) rfl rfl rfl rfl))))))) (by decide));refine X7 (fun ρ=>∃(n:Nat) (x:Int),(1<=n/\n<=7)/\ρ=[.sh (.lst (ns.map Dat.int)),.ow (bq x),.sh (.int (n:Nat)),.un,.un,.un,.un,.un,.un,.un]) ?_ ?_
 ·refine XE (U_ (W_ ?_)) (by decide);refine X6 (m:=7) rfl (by decide) (by decide) rfl fun t x2 t0 t1 ρ3 e=>?_;subst e;refine X5 (XR ⟨(1+t).toNat,x2,by lia,?_⟩ rfl) rfl rfl;rw[Int.toNat_of_nonneg (by lia)];rfl
 rintro ρ ⟨n,x1,⟨n1,n10⟩,rfl⟩;refine V_ (XY (Yr (W_ (cj.mk (XU (m_ (W_ (m_ (XU (m_ (W_ (m_ (XU (m_ (S_ rfl (T_ (Yg (sY:=Dat.int) (xs:=ns) ?_ rfl)))))))))))))))));refine T_ (Yy (T_ (Yz ?_ rfl)) rfl)
 generalize hT:(if (if ((ns.length:Nat):Int)<4 then ((ns.length:Nat):Int) else 4)>2 then (if ((ns.length:Nat):Int)<4 then ((ns.length:Nat):Int) else 4) else 2)=top
 have hb:top<=4/\2<=top:=by
  rw[<- hT];constructor
  ·split<;>split<;>lia
  ·split<;>lia
 refine cj.mk ⟨?_,by unfold BIG;lia⟩;rw[mq];refine XZ (fun i:Nat=>Dat.int (1+(i:Int))) _ _ (S3 (top-1).toNat) _ _ _ _ _ (fun p q ρ=>∃c1 c3 c4 c5 c6 c7 c8 c9:Cell,ρ=[.sh (.lst (ns.map Dat.int)),c1,.sh (.int (n:Nat)),c3,c4,c5,c6,c7,c8,c9]) ⟨_,_,_,_,_,_,_,_,rfl⟩ ?_ ?_
 ·rintro p i q ρ e ⟨c1,c3,c4,c5,c6,c7,c8,c9,rfl⟩;have hi:i<(top-1).toNat:=Tw.mp (by rw[e];simp);refine Dm.bQ rfl (by trivial) ?_;exact EU aH aW n1 n10 (by lia) (by lia) _ _ _ _ _ _ _ fun c1 c4 c5 c6 c7 c8 c9=>⟨_,_,_,_,_,_,_,_,rfl⟩
 ·rintro ρ ⟨c1,c3,c4,c5,c6,c7,c8,c9,rfl⟩;exact XQ (W_ rfl)
end
end P
namespace Q
open PySem L2 Br Dm P
noncomputable def top(i:Nat):Stmt:=PySem.Challenge.pw_sinceply_k72_whole_pared_and_cut.main.body.getD i (.Pass ⟨0,0,0,0⟩)
noncomputable abbrev tbq(aG aI bM bO:Addr):List TbZ:=[⟨aG,aI,rawInt ((184:Nat):Int),rawInt ((28:Nat):Int),(("small_cuts" : Str) ++ ".<locals>.") ++ "<lambda>"⟩,⟨bM,bO,rawInt ((256:Nat):Int),rawInt ((30:Nat):Int),(("law" : Str) ++ ".<locals>.") ++ "<lambda>"⟩]
structure Txt(mg:Str->Option Value)(K:Dp)(base:Heap)(yx yz yC yD yE yF yG ck yH yI n8 n9 n_ oh oj oq ou oz oA oB oE oF oG oH bh oJ oK oM oN oO oQ oR oS oU oV oW oX oY oZ jZ o6 o7 o8 o9 o_ pq pA pB pC aG aI bM bO:Addr)(pD pF pG pH pI pJ pK pL pM pN ie ig ir iw iz iA iB iC iD iE iF iG iH iI iJ iK iM iN iO iP iQ iR iU iV iW iX iY iZ i6 i7 i8 i9 i_ jb jc jd je jf gA:FuncData)(jh:Tok):Prop where
 EV:mg "all" = none
 Nh:mg "bool" = none
 Ni:mg "dict" = none
 vY:mg "enumerate" = none
 QF:mg "int" = none
 bR:mg "isinstance" = none
 cV:mg "len" = none
 kO:mg "list" = none
 EW:mg "max" = none
 EX:mg "min" = none
 bS:mg "range" = none
 pO:mg "reversed" = none
 QG:mg "set" = none
 j3:mg "sorted" = none
 mw:mg "tuple" = none
 QH:mg "zip" = none
 ql:jO mg base ⟨aG,aI,rawInt ((184:Nat):Int),rawInt ((28:Nat):Int),(("small_cuts" : Str) ++ ".<locals>.") ++ "<lambda>"⟩
 Nj:jO mg base ⟨bM,bO,rawInt ((256:Nat):Int),rawInt ((30:Nat):Int),(("law" : Str) ++ ".<locals>.") ++ "<lambda>"⟩
 gB:∃t,mg "MOST_TIES" = some (.int 60 t)
 SE:mg "steps_of" = some (.ref yx)
 SG:mg "free_steps" = some (.ref yz)
 SH:mg "led_steps" = some (.ref yC)
 QI:mg "shortest_ways" = some (.ref yD)
 SI:mg "lead_along" = some (.ref yE)
 SJ:mg "parted" = some (.ref yF)
 Nk:mg "ways_apart" = some (.ref yG)
 SK:mg "hang_often" = some (.ref ck)
 SM:mg "is_whole" = some (.ref yH)
 IX:mg "is_within" = some (.ref yI)
 Kf:mg "is_places" = some (.ref n8)
 Kg:mg "is_place" = some (.ref n9)
 Kh:mg "is_layers" = some (.ref n_)
 QJ:mg "is_moment" = some (.ref oh)
 Kl:mg "is_tie_either_way" = some (.ref oj)
 QK:mg "is_tie" = some (.ref oq)
 QL:mg "is_rising" = some (.ref ou)
 QM:mg "look_at_places" = some (.ref oz)
 Km:mg "look_at_layers" = some (.ref oA)
 Kn:mg "rim" = some (.ref oB)
 QN:mg "merged" = some (.ref oE)
 Ko:mg "without" = some (.ref oF)
 QO:mg "kept_ties" = some (.ref oG)
 QS:mg "no_ways" = some (.ref oH)
 QT:mg "ways_by_ties" = some (.ref bh)
 QU:mg "ways_out" = some (.ref oJ)
 QV:mg "side_for" = some (.ref oK)
 QW:mg "pared" = some (.ref oM)
 QX:mg "least_layer" = some (.ref oN)
 Kp:mg "layered" = some (.ref oO)
 QY:mg "put_in_order" = some (.ref oQ)
 QZ:mg "look_for_clash" = some (.ref oR)
 Q0:mg "record_of" = some (.ref oS)
 Q2:mg "is_record" = some (.ref oU)
 Q3:mg "since" = some (.ref oV)
 Q4:mg "is_net" = some (.ref oW)
 Q5:mg "look_at_net" = some (.ref oX)
 EY:mg "net_of" = some (.ref oY)
 Q6:mg "thin_sides" = some (.ref oZ)
 EZ:mg "small_cuts" = some (.ref jZ)
 Q7:mg "_law_cell_at" = some (.ref o6)
 Kq:mg "_law_pool" = some (.ref o7)
 d7:mg "_law_take" = some (.ref o8)
 Q8:mg "_law_record" = some (.ref o9)
 Kr:mg "_law_rim" = some (.ref o_)
 Q9:mg "_law_sides" = some (.ref pq)
 Q_:mg "_law_things" = some (.ref pA)
 Ks:mg "_law_kept" = some (.ref pB)
 SR:mg "law" = some (.ref pC)
 Ra:Fun K "steps_of" "steps_of" (top 3) yx pD
 Rb:Fun K "free_steps" "free_steps" (top 4) yz pF
 Rc:Fun K "led_steps" "led_steps" (top 5) yC pG
 Nl:Fun K "shortest_ways" "shortest_ways" (top 6) yD pH
 Rf:Fun K "lead_along" "lead_along" (top 7) yE pI
 Nm:Binds K pG ["steps","heads"] []
 IY:Binds K pH ["steps","a"] []
 Rg:Fun K "parted" "parted" (top 8) yF pJ
 Nn:Binds K pD ["n","ties"] []
 Np:Binds K pF ["steps","heads"] []
 Nq:Binds K pI ["heads","way"] []
 Nr:Binds K pJ ["steps","heads","a","b","count"] []
 IZ:Fun K "ways_apart" "ways_apart" (top 1) yG pK
 E1:Binds K pK ["n","ties","a","b","most"] []
 Rh:Fun K "hang_often" "hang_often" (top 2) ck pL
 Ri:Fun K "is_whole" "is_whole" (top 17) yH pM
 Nt:Binds K pM ["thing"] []
 E2:Fun K "is_within" "is_within" (top 18) yI pN
 BZ:Binds K pN ["thing","low","high"] []
 E3:Fun K "is_places" "is_places" (top 19) n8 ie
 E4:Fun K "is_place" "is_place" (top 20) n9 ig
 E5:Fun K "is_layers" "is_layers" (top 21) n_ ir
 Ku:Fun K "is_moment" "is_moment" (top 22) oh iw
 Ak:Binds K ig ["n","thing"] []
 E6:Binds K iw ["thing"] []
 E7:Fun K "is_tie_either_way" "is_tie_either_way" (top 23) oj iz
 Al:Binds K iz ["n","thing"] []
 Kv:Fun K "is_tie" "is_tie" (top 24) oq iA
 Kw:Fun K "is_rising" "is_rising" (top 25) ou iB
 Am:Binds K ie ["thing"] []
 Ky:Fun K "look_at_places" "look_at_places" (top 26) oz iC
 An:Binds K ir ["thing"] []
 E8:Fun K "look_at_layers" "look_at_layers" (top 27) oA iD
 E9:Fun K "rim" "rim" (top 29) oB iE
 Kz:Fun K "merged" "merged" (top 30) oE iF
 E_:Fun K "without" "without" (top 34) oF iG
 Nu:Binds K pL ["n","ties","a","b","times"] []
 Ao:Binds K iG ["ties","tie"] []
 KA:Fun K "kept_ties" "kept_ties" (top 33) oG iH
 KC:Fun K "no_ways" "no_ways" (top 36) oH iI
 KD:Fun K "ways_by_ties" "ways_by_ties" (top 37) bh iJ
 Fb:Binds K iI ["k"] []
 Fc:Binds K iJ ["n","kept","a","b","k"] []
 KG:Fun K "ways_out" "ways_out" (top 35) oJ iK
 KH:Fun K "side_for" "side_for" (top 38) oK iM
 Aq:Binds K iD ["k"] []
 Fe:Binds K iH ["n","record","k","often"] []
 Ff:Binds K iK ["n","record","kept","k","ways_of"] []
 Fg:Binds K iM ["n","kept","tie","k"] []
 KI:Fun K "pared" "pared" (top 32) oM iN
 KL:Fun K "least_layer" "least_layer" (top 41) oN iO
 Fj:Binds K iF ["groups","a","b"] []
 Fo:Binds K iO ["layers","a","b"] []
 Fq:Fun K "layered" "layered" (top 40) oO iP
 KN:Fun K "put_in_order" "put_in_order" (top 45) oQ iQ
 KP:Fun K "look_for_clash" "look_for_clash" (top 46) oR iR
 Ft:Binds K iC ["n"] []
 Fv:Binds K iQ ["thing"] []
 Fw:Binds K iR ["ties"] []
 KQ:Fun K "record_of" "record_of" (top 44) oS iU
 Fx:Binds K iA ["n","thing"] []
 Fy:Binds K iB ["things"] []
 KR:Fun K "is_record" "is_record" (top 47) oU iV
 KS:Fun K "since" "since" (top 48) oV iW
 Ar:Binds K iP ["n","record","k"] []
 Fz:Binds K iV ["n","thing"] []
 KU:Fun K "is_net" "is_net" (top 50) oW iX
 FA:Binds K iX ["thing"] []
 KW:Fun K "look_at_net" "look_at_net" (top 51) oX iY
 As:Fun K "net_of" "net_of" (top 52) oY iZ
 Au:Binds K iE ["record","side"] []
 KY:Fun K "thin_sides" "thin_sides" (top 55) oZ i6
 FD:Binds K iW ["record","t"] []
 FF:Binds K iY ["thing"] []
 FG:Binds K i6 ["n","ties","k"] []
 cZ:i7.code=.ref aG
 rS:HL K "small_cuts" "small_cuts" (top 54) jZ i7
 KZ:Fun K "_law_cell_at" "_law_cell_at" (top 57) o6 i8
 FH:Binds K i8 ["script","k"] []
 FJ:Fun K "_law_pool" "_law_pool" (top 58) o7 i9
 dU:Fun K "_law_take" "_law_take" (top 59) o8 i_
 di:Binds K i_ ["pool","many"] []
 K0:Fun K "_law_record" "_law_record" (top 60) o9 jb
 FL:Fun K "_law_rim" "_law_rim" (top 61) o_ jc
 K1:Fun K "_law_sides" "_law_sides" (top 62) pq jd
 K3:Fun K "_law_things" "_law_things" (top 63) pA je
 FO:Binds K iN ["n","record","k"] []
 FP:Fun K "_law_kept" "_law_kept" (top 64) pB jf
 FQ:Binds K iU ["n","things"] []
 vZ:Binds K iZ ["n","record","k"] []
 K4:Binds K i7 ["net","t"] []
 pP:Binds K i7 ["net","t"] [.int 0 jh]
 Av:Binds K i9 ["script","at"] []
 FU:Binds K jb ["pool","n","most"] []
 Aw:Binds K jc ["record","side"] []
 FW:Binds K jd ["n"] []
 FY:Binds K je ["pool","record"] []
 Ax:Binds K jf ["n","record","k"] []
 pQ:gA.code=.ref bM
 Rj:Fun K "law" "law" (top 65) pC gA
section
variable{P':Program}{w:World}{K:Dp}{mg:Str->Option Value}{base:Heap}{yx yz yC yD yE yF yG ck yH yI n8 n9 n_ oh oj oq ou oz oA oB oE oF oG oH bh oJ oK oM oN oO oQ oR oS oU oV oW oX oY oZ jZ o6 o7 o8 o9 o_ pq pA pB pC aG aI bM bO:Addr}
variable{pD pF pG pH pI pJ pK pL pM pN ie ig ir iw iz iA iB iC iD iE iF iG iH iI iJ iK iM iN iO iP iQ iR iU iV iW iX iY iZ i6 i7 i8 i9 i_ jb jc jd je jf gA:FuncData}{jh:Tok}
theorem v5:ak ["n","ties","steps","moment","a","b"] ["n","ties"] (af (top 3)):=fsc
theorem Nv:(["n","ties","steps","moment","a","b","place"]:List Str).Nodup:=by decide +kernel
theorem Rk:ak ["steps","heads"] ["steps","heads"] (af (top 4)):=fsc
theorem Ny:(["steps","heads","row"]:List Str).Nodup:=by decide +kernel
theorem Nz:(["steps","heads","row","step"]:List Str).Nodup:=by decide +kernel
theorem Rl:ak ["steps","heads"] ["steps","heads"] (af (top 5)):=fsc
theorem NB:(["steps","heads","row"]:List Str).Nodup:=by decide +kernel
theorem NC:(["steps","heads","row","step"]:List Str).Nodup:=by decide +kernel
theorem v7:ak ["steps","a","ways","pending","place","step"] ["steps","a"] (af (top 6)):=fsc
theorem FZ:ak ["heads","way","moment","place"] ["heads","way"] (af (top 7)):=fsc
theorem rT:ak ["steps","heads","a","b","count","left","ways","time","way","moment"] ["steps","heads","a","b","count"] (af (top 8)):=fsc
theorem ND:(["steps","heads","a","b","count","left","ways","time","way","moment","step"]:List Str).Nodup:=by decide +kernel
theorem lG:ak ["n","ties","a","b","most","steps","heads","side","count","found"] ["n","ties","a","b","most"] (af (top 1)):=fsc
theorem Rm:ak ["n","ties","a","b","times"] ["n","ties","a","b","times"] (af (top 2)):=fsc
theorem Rn:ak ["thing"] ["thing"] (af (top 17)):=fsc
theorem Ro:ak ["thing","low","high"] ["thing","low","high"] (af (top 18)):=fsc
theorem NF:ak ["thing"] ["thing"] (af (top 19)):=fsc
theorem NG:ak ["n","thing"] ["n","thing"] (af (top 20)):=fsc
theorem NH:ak ["thing"] ["thing"] (af (top 21)):=fsc
theorem NI:ak ["thing"] ["thing"] (af (top 22)):=fsc
theorem NJ:ak ["n","thing"] ["n","thing"] (af (top 23)):=fsc
theorem NK:ak ["n","thing"] ["n","thing"] (af (top 24)):=fsc
theorem NL:ak ["things"] ["things"] (af (top 25)):=fsc
theorem I0:(["things","at"]:List Str).Nodup:=by decide +kernel
theorem NN:ak ["n"] ["n"] (af (top 26)):=fsc
theorem NO:ak ["k"] ["k"] (af (top 27)):=fsc
theorem NP:ak ["record","side"] ["record","side"] (af (top 29)):=fsc
theorem tO:(["record","side","moment","a","b"]:List Str).Nodup:=by decide +kernel
theorem NQ:ak ["groups","a","b"] ["groups","a","b"] (af (top 30)):=fsc
theorem I_:(["groups","a","b","group"]:List Str).Nodup:=by decide +kernel
theorem NR:ak ["ties","tie"] ["ties","tie"] (af (top 34)):=fsc
theorem Ja:(["ties","tie","other"]:List Str).Nodup:=by decide +kernel
theorem pR:ak ["n","record","k","often","kept","tie","others"] ["n","record","k","often"] (af (top 33)):=fsc
theorem NT:ak ["k"] ["k"] (af (top 36)):=fsc
theorem Jb:(["k","time"]:List Str).Nodup:=by decide +kernel
theorem NU:ak ["n","kept","a","b","k"] ["n","kept","a","b","k"] (af (top 37)):=fsc
theorem F0:ak ["n","record","kept","k","ways_of","gone"] ["n","record","kept","k","ways_of"] (af (top 35)):=fsc
theorem Jc:(["n","record","kept","k","ways_of","gone","tie"]:List Str).Nodup:=by decide +kernel
theorem Jd:(["n","record","kept","k","ways_of","gone","tie"]:List Str).Nodup:=by decide +kernel
theorem NV:ak ["n","kept","tie","k"] ["n","kept","tie","k"] (af (top 38)):=fsc
theorem yJ:ak ["n","record","k","kept","sides"] ["n","record","k"] (af (top 32)):=fsc
theorem Je:(["n","record","k","kept","sides","tie"]:List Str).Nodup:=by decide +kernel
theorem Jf:(["n","record","k","kept","sides","tie"]:List Str).Nodup:=by decide +kernel
theorem yK:ak ["layers","a","b","at","groups"] ["layers","a","b"] (af (top 41)):=fsc
theorem ji:ak ["n","record","k","layers","numbers","moment","a","b","number"] ["n","record","k"] (af (top 40)):=fsc
theorem Jg:(["n","record","k","layers","numbers","moment","a","b","number","layer"]:List Str).Nodup:=by decide +kernel
theorem NW:ak ["thing"] ["thing"] (af (top 45)):=fsc
theorem F1:ak ["ties","at"] ["ties"] (af (top 46)):=fsc
theorem F2:ak ["n","things","ties"] ["n","things"] (af (top 44)):=fsc
theorem Jh:(["n","things","ties","thing"]:List Str).Nodup:=by decide +kernel
theorem Ji:(["n","things","ties","thing"]:List Str).Nodup:=by decide +kernel
theorem NX:ak ["n","thing"] ["n","thing"] (af (top 47)):=fsc
theorem Jj:(["n","thing","tie"]:List Str).Nodup:=by decide +kernel
theorem Jk:(["n","thing","tie"]:List Str).Nodup:=by decide +kernel
theorem NY:ak ["record","t"] ["record","t"] (af (top 48)):=fsc
theorem Jl:(["record","t","tie"]:List Str).Nodup:=by decide +kernel
theorem NZ:ak ["thing"] ["thing"] (af (top 50)):=fsc
theorem N1:ak ["thing"] ["thing"] (af (top 51)):=fsc
theorem F3:ak ["n","record","k","numbers"] ["n","record","k"] (af (top 52)):=fsc
theorem Ay:(["n","record","k","numbers","tie","number"]:List Str).Nodup:=by decide +kernel
theorem kP:ak ["n","ties","k","sides","place","among","both"] ["n","ties","k"] (af (top 55)):=fsc
theorem Jm:(["n","ties","k","sides","place","among","both","tie"]:List Str).Nodup:=by decide +kernel
theorem Jo:(["n","ties","k","sides","place","among","both","side"]:List Str).Nodup:=by decide +kernel
theorem Jp:(["n","ties","k","sides","place","among","both","side"]:List Str).Nodup:=by decide +kernel
theorem Jq:(["n","ties","k","sides","place","among","both","side"]:List Str).Nodup:=by decide +kernel
theorem yL:ak ["net","t","ties","cuts"] ["net","t"] (af (top 54)):=fsc
theorem Jr:(["net","t","ties","cuts","side"]:List Str).Nodup:=by decide +kernel
theorem N2:ak ["script","k"] ["script","k"] (af (top 57)):=fsc
theorem gC:ak ["script","at","cell","big","turn","one"] ["script","at"] (af (top 58)):=fsc
theorem F4:ak ["pool","many","number"] ["pool","many"] (af (top 59)):=fsc
theorem c_:ak ["pool","n","most","many","wide","moment","record","k","a","b"] ["pool","n","most"] (af (top 60)):=fsc
theorem N3:ak ["record","side"] ["record","side"] (af (top 61)):=fsc
theorem tP:(["record","side","moment","a","b"]:List Str).Nodup:=by decide +kernel
theorem yM:ak ["n","found","bits"] ["n"] (af (top 62)):=fsc
theorem Js:(["n","found","bits","place"]:List Str).Nodup:=by decide +kernel
theorem kQ:ak ["pool","record","found","moment","a","b","thing"] ["pool","record"] (af (top 63)):=fsc
theorem F5:ak ["n","record","k","moments"] ["n","record","k"] (af (top 64)):=fsc
theorem Jt:(["n","record","k","moments","tie"]:List Str).Nodup:=by decide +kernel
theorem dc:ak ["script","pool","n","at","k","record","told","net","due","kept"] ["script"] (af (top 65)):=fsc
theorem Ju:(["script","pool","n","at","k","record","told","net","due","kept","side"]:List Str).Nodup:=by decide +kernel
variable(T:Txt mg K base yx yz yC yD yE yF yG ck yH yI n8 n9 n_ oh oj oq ou oz oA oB oE oF oG oH bh oJ oK oM oN oO oQ oR oS oU oV oW oX oY oZ jZ o6 o7 o8 o9 o_ pq pA pB pC aG aI bM bO pD pF pG pH pI pJ pK pL pM pN ie ig ir iw iz iA iB iC iD iE iF iG iH iI iJ iK iM iN iO iP iQ iR iU iV iW iX iY iZ i6 i7 i8 i9 i_ jb jc jd je jf gA jh)
include T
theorem Rp :
  aR P' w K mg base CX0 1 yx pD ["n","ties"] (spD Ik):=
 okQ T.Ra v5 fun _ _ _ _ _ _ hr=>(MH 2 ["n","ties","steps","moment","a","b"] ["place"] v5.nd (c_n 6 Nv rfl rfl) (A5 rfl T.bS (aa (d_v 0) ah)) (P8 Ua rfl (i_S (d_v 1)) (g_t rfl (aY 3 v5.nd (aY 4 v5.nd (aY 5 v5.nd f6))))
  (JS (R8 (lR hr (d_v 4) (d_v 5)) (MG (JT (d_v 4) (dg (aa (d_v 3) (aa (d_v 5) ah))))
  (JS (JT (d_v 5) (dg (aa (d_v 3) (aa (d_v 4) ah)))))) P7)))
  (av (s_r (d_v 2))))
theorem Rq :
  aR P' w K mg base CX0 1 yz pF ["steps","heads"] (spD Ec):=
 okQ T.Rb Rk fun _ _ _ _ _ _ hr=>(av (s_r (cB 0 ["steps","heads"] ["row"] (c_n 2 Ny rfl rfl) (d_v 0) (fun _ _ _ _ _=>bX) (fun _ _ _ _ _=>(cB 2 ["steps","heads","row"] ["step"] (c_n 3 Nz rfl rfl) (d_v 2) (fun _ _ _ _ _=>cA (lR hr (Dh hr (d_v 1) (aN (d_v 3) d_i)) (aN (d_v 3) d_i))) (fun _ _ _ _ _=>(d_v 3)))))))
theorem Rr :
  aR P' w K mg base CX0 1 yC pG ["steps","heads"] (spD Ed):=
 okQ T.Rc Rl fun _ _ _ _ _ _ hr=>(av (s_r (cB 0 ["steps","heads"] ["row"] (c_n 2 NB rfl rfl) (d_v 0) (fun _ _ _ _ _=>bX) (fun _ _ _ _ _=>(cB 2 ["steps","heads","row"] ["step"] (c_n 3 NC rfl rfl) (d_v 2) (fun _ _ _ _ _=>cA (su hr (Dh hr (d_v 1) (aN (d_v 3) d_i)) (aN (d_v 3) d_i))) (fun _ _ _ _ _=>(d_v 3)))))))
theorem K5 :
  aR P' w K mg base CX0 1 yD pH ["steps","a"] (spD vc):=
 okQ T.Nl v7 fun _ _ _ _ _ _ hr=>(ai (s_a 2 v7.nd (R5 (d_v 1) (dh ah)))
  (ai (s_a 3 v7.nd (dh (aa (d_v 1) ah)))
  (ai (Py 100 Ua (R7 (d_v 3))
  (ai (s_a 4 v7.nd (HK 3 d_i))
  (av (dW Ua rfl (i_S (aN (d_v 0) (d_v 4))) (g_n 5 v7.nd)
  (av (dB (My hr (aN (d_v 5) d_i) (d_v 2)) (ai (Di 2 hr (aN (d_v 5) d_i) (cQ (Mx hr (d_v 2) (d_v 4)) (dh (aa (d_v 5) ah))))
  (av (ux 3 (aN (d_v 5) d_i)))) bV))))))
  (av (s_r (d_v 2))))))
theorem Rt :
  aR P' w K mg base CX0 1 yE pI ["heads","way"] (spM Ef):=by
 refine T.Rf.ok FZ (fun vs H Q E h=>jL h) (fun cdv A outer s H vs Q E hr h=>?_);exact ⟨_,(av (dW Ua rfl (i_S (d_v 1)) (g_t rfl (aY 2 FZ.nd (aY 3 FZ.nd f6)))
  (av (dB (JQ hr (d_v 2) (d_v 0)) (av (s_e (Dz 0 (d_v 2)))) (av (Di 0 hr (d_v 2) (d_v 3))))))),zu (n:=2) (m:=2) rfl h⟩
theorem Ru :
  aR P' w K mg base CX0 2 yF pJ ["steps","heads","a","b","count"] (spD Bx):=
 okQ T.Rg rT fun _ _ _ _ _ _ hr=>(ai (s_a 5 rT.nd (MK rfl T.Ni (aa (d_v 1) ah)))
  (ai (s_a 6 rT.nd (dh ah))
  (ai (dW Ua rfl (A5 rfl T.bS (aa (d_v 4) ah)) (g_n 7 rT.nd)
  (ai (Hx 8 ["steps","heads","a","b","count","left","ways","time","way","moment"] ["step"] rT.nd (c_n 10 ND rfl rfl) (i_S (Mx hr (aB (K5 T) (Br.hm hr) rfl T.QI T.Nl.kp T.IY (aa (nA (Rr T) (Br.hm hr) rfl T.SH T.Rc.kp T.Nm (aa (d_v 0) (aa (d_v 5) ah))) (aa (d_v 2) ah))) (d_v 3))) (fun _ _ _ _ _=>bX) (fun _ _ _ _ _=>(aN (d_v 10) d_i)))
  (ai (dW Ua rfl (i_S (d_v 8)) (g_n 9 rT.nd)
  (av (s_e (Dz 5 (d_v 9)))))
  (av (ux 6 (d_v 8))))))
  (av (s_r (d_v 6))))))
theorem F6 :
  aR P' w K mg base CX0 3 yG pK ["n","ties","a","b","most"] (spD yj):=
 okQ T.IZ lG fun _ _ _ _ _ _ hr=>(ai (s_a 5 lG.nd (aB (Rp T) (Br.hm hr) rfl T.SE T.Ra.kp T.Nn (aa (d_v 0) (aa (d_v 1) ah))))
  (ai (s_a 6 lG.nd R4)
  (ai (s_a 7 lG.nd d_n)
  (ai (s_a 8 lG.nd d_i)
  (ai (Py 100 Ua (t_w (w_and (Hr (d_v 8) (d_v 4)) (xK (PY (d_v 7) d_n))))
  (ai (s_a 9 lG.nd (aB (K5 T) (Br.hm hr) rfl T.QI T.Nl.kp T.IY (aa (nA (Rq T) (Br.hm hr) rfl T.SG T.Rb.kp T.Np (aa (d_v 5) (aa (d_v 6) ah))) (aa (d_v 2) ah))))
  (av (dB (JQ hr (d_v 3) (d_v 9)) (ai (s_e (bz (Rt T) (Br.hm hr) rfl T.SI T.Rf.kp T.Nq (aa (d_v 6) (aa (Mx hr (d_v 9) (d_v 3)) ah))))
  (av (s_a 8 lG.nd (cQ (d_v 8) d_i)))) (av (s_a 7 lG.nd (zm rfl T.mw (aa (HS rfl rfl T.j3 (aa (d_v 9) ah)) ah))))))))
  (av (s_r (dg (aa (nA (Ru T) (Br.hm hr) rfl T.SJ T.Rg.kp T.Nr (@aa _ _ _ _ _ (d_v 5) (@aa _ _ _ _ _ (d_v 6) (@aa _ _ _ _ _ (d_v 2) (@aa _ _ _ _ _ (d_v 3) (@aa _ _ _ _ _ (d_v 8) ah rfl) rfl) rfl) rfl) rfl)) (aa (d_v 7) ah))))))))))
theorem Rv :
  aR P' w K mg base CX0 4 ck pL ["n","ties","a","b","times"] (spD Il):=
 okQ T.Rh Rm fun _ _ _ _ _ _ hr=>(av (s_r (PX (aN (aB (F6 T) (Br.hm hr) rfl T.Nk T.IZ.kp T.E1 (@aa _ _ _ _ _ (d_v 0) (@aa _ _ _ _ _ (d_v 1) (@aa _ _ _ _ _ (d_v 2) (@aa _ _ _ _ _ (d_v 3) (@aa _ _ _ _ _ (d_v 4) ah rfl) rfl) rfl) rfl) rfl)) d_i) d_n)))
theorem Rw :
  aR P' w K mg base CX0 1 yH pM ["thing"] (spD Im):=
 okQ T.Ri Rn fun _ _ _ _ _ _ hr=>(av (s_r (uw (qH Ht (by rfl) rfl T.QF rfl T.bR (d_v 0)) (zo (Px (qH CW (by rfl) rfl T.Nh rfl T.bR (d_v 0)))))))
theorem Az :
  aR P' w K mg base CX0 2 yI pN ["thing","low","high"] (spD yk):=
 okQ T.E2 Ro fun _ _ _ _ _ _ hr=>(av (s_r (uw (aB (Rw T) (Br.hm hr) rfl T.SM T.Ri.kp T.Nt (aa (d_v 0) ah)) (zo (Hv yZ zk yZ zk (d_v 1) (d_v 0) (d_v 2))))))
theorem F7 :
  aR P' w K mg base CX0 3 n8 ie ["thing"] (spD vd):=
 okQ T.E3 NF fun _ _ _ _ _ _ hr=>(av (s_r (aB (Az T) (Br.hm hr) rfl T.IX T.E2.kp T.BZ (aa (d_v 0) (aa d_i (aa d_i ah))))))
theorem F8 :
  aR P' w K mg base CX0 3 n9 ig ["n","thing"] (spD ve):=
 okQ T.E4 NG fun _ _ _ _ _ _ hr=>(av (s_r (aB (Az T) (Br.hm hr) rfl T.IX T.E2.kp T.BZ (aa (d_v 1) (aa d_i (aa (jH (d_v 0) d_i) ah))))))
theorem F9 :
  aR P' w K mg base CX0 3 n_ ir ["thing"] (spD nM):=
 okQ T.E5 NH fun _ _ _ _ _ _ hr=>(av (s_r (aB (Az T) (Br.hm hr) rfl T.IX T.E2.kp T.BZ (aa (d_v 0) (aa d_i (aa d_i ah))))))
theorem N4 :
  aR P' w K mg base CX0 3 oh iw ["thing"] (spD zQ):=
 okQ T.Ku NI fun _ _ _ _ _ _ hr=>(av (s_r (aB (Az T) (Br.hm hr) rfl T.IX T.E2.kp T.BZ (aa (d_v 0) (aa d_i (aa (CT d_i d_i) ah))))))
theorem F_ :
  aR P' w K mg base CX0 4 oj iz ["n","thing"] (spD vf):=
 okQ T.E7 NJ fun _ _ _ _ _ _ hr=>(ai (dB (t_w (w_or (fM (eN (qH kit_tuple (by rfl) rfl T.mw rfl T.bR (d_v 1)))) (kX (lR hr (cR rfl T.cV (aa (d_v 1) ah)) d_i)))) (av (s_r d_b)) bV)
  (av (s_r (uw (aB (N4 T) (Br.hm hr) rfl T.QJ T.Ku.kp T.E6 (aa (aN (d_v 1) d_i) ah)) (uw (aB (F8 T) (Br.hm hr) rfl T.Kg T.E4.kp T.Ak (aa (d_v 0) (aa (aN (d_v 1) d_i) ah))) (zo (aB (F8 T) (Br.hm hr) rfl T.Kg T.E4.kp T.Ak (aa (d_v 0) (aa (aN (d_v 1) d_i) ah)))))))))
theorem N5 :
  aR P' w K mg base CX0 5 oq iA ["n","thing"] (spD zR):=
 okQ T.Kv NK fun _ _ _ _ _ _ hr=>(av (s_r (uw (aB (F_ T) (Br.hm hr) rfl T.Kl T.E7.kp T.Al (aa (d_v 0) (aa (d_v 1) ah))) (zo (RU (aN (d_v 1) d_i) (aN (d_v 1) d_i))))))
theorem N6 :
  aR P' w K mg base CX0 1 ou iB ["things"] (spD zS):=
 okQ T.Kw NL fun _ _ _ _ _ _ hr=>(av (s_r (C0 rfl rfl T.EV (aa (Hw ["things"] ["at"] (c_n 1 I0 rfl rfl) (A6 rfl T.bS (aa d_i (aa (cR rfl T.cV (aa (d_v 0) ah)) ah))) (fun _ _ _ _ _=>bX) (fun _ _ _ _ _=>(RT (aN (d_v 0) (jH (d_v 1) d_i)) (aN (d_v 0) (d_v 1))))) ah))))
theorem N7 :
  aR P' w K mg base CX0 4 oz iC ["n"] (spD zT):=
 okQ T.Ky NN fun _ _ _ _ _ _ hr=>(av (dB (fM (eN (aB (F7 T) (Br.hm hr) rfl T.Kf T.E3.kp T.Am (aa (d_v 0) ah)))) (av gG) bV))
theorem Ga :
  aR P' w K mg base CX0 4 oA iD ["k"] (spD vg):=
 okQ T.E8 NO fun _ _ _ _ _ _ hr=>(av (dB (fM (eN (aB (F9 T) (Br.hm hr) rfl T.Kh T.E5.kp T.An (aa (d_v 0) ah)))) (av gG) bV))
theorem Gb :
  aR P' w K mg base CX0 1 oB iE ["record","side"] (spD vh):=
 okQ T.E9 NP fun _ _ _ _ _ _ hr=>(av (s_r (cB 0 ["record","side"] ["moment","a","b"] (c_t rfl (fun _ _ _ _ _=>(aY 2 tO (aY 3 tO (aY 4 tO f6))))) (d_v 0) (fun _ _ _ _ _=>cA (lR hr (AX hr (d_v 3) (d_v 1)) (AX hr (d_v 4) (d_v 1)))) (fun _ _ _ _ _=>(d_v 2)))))
theorem N8 :
  aR P' w K mg base CX0 1 oE iF ["groups","a","b"] (spD zU):=
 okQ T.Kz NQ fun _ _ _ _ _ _ hr=>(av (s_r (cB 0 ["groups","a","b"] ["group"] (c_n 3 I_ rfl rfl) (d_v 0) (fun _ _ _ _ _=>bX) (fun _ _ _ _ _=>(Pw (su hr (d_v 3) (aN (d_v 0) (d_v 2))) (aN (d_v 0) (d_v 1)) (d_v 3))))))
theorem Gd :
  aR P' w K mg base CX0 1 oF iG ["ties","tie"] (spD rA):=
 okQ T.E_ NR fun _ _ _ _ _ _ hr=>(av (s_r (cB 0 ["ties","tie"] ["other"] (c_n 2 Ja rfl rfl) (d_v 0) (fun _ _ _ _ _=>cA (lR hr (d_v 2) (d_v 1))) (fun _ _ _ _ _=>(d_v 2)))))
theorem N9 :
  aR P' w K mg base CX0 5 oG iH ["n","record","k","often"] (spD (vj ck bh)):=
 okQ T.KA pR fun _ _ _ _ _ _ hr=>(ai (s_a 4 pR.nd (CV rfl T.kO (aa (d_v 1) ah)))
  (ai (dW Ua rfl (i_S (d_v 1)) (g_n 5 pR.nd)
  (ai (s_a 6 pR.nd (aB (Gd T) (Br.hm hr) rfl T.Ko T.E_.kp T.Ao (aa (d_v 4) (aa (d_v 5) ah))))
  (av (dB (t_w (w_or (su hr (aN (d_v 5) d_i) (aN (d_v 5) d_i)) (kX (eN (zD 3 (Rv T) (Br.hm hr) T.Rh.kp T.Nu (@aa _ _ _ _ _ (d_v 0) (@aa _ _ _ _ _ (d_v 6) (@aa _ _ _ _ _ (aN (d_v 5) d_i) (@aa _ _ _ _ _ (aN (d_v 5) d_i) (@aa _ _ _ _ _ (d_v 2) ah rfl) rfl) rfl) rfl) rfl)))))) (av (s_a 4 pR.nd (d_v 6))) bV))))
  (av (s_r (d_v 4)))))
theorem N_ :
  aR P' w K mg base CX0 1 oH iI ["k"] (spD rB):=
 okQ T.KC NT fun _ _ _ _ _ _ hr=>(av (s_r (Hw ["k"] ["time"] (c_n 1 Jb rfl rfl) (A5 rfl T.bS (aa (d_v 0) ah)) (fun _ _ _ _ _=>bX) (fun _ _ _ _ _=>(dh ah)))))
theorem Oa :
  aR P' w K mg base CX0 4 bh iJ ["n","kept","a","b","k"] (spD vm):=
 okQ T.KD NU fun _ _ _ _ _ _ hr=>(av (s_r (aN (aB (F6 T) (Br.hm hr) rfl T.Nk T.IZ.kp T.E1 (@aa _ _ _ _ _ (d_v 0) (@aa _ _ _ _ _ (d_v 1) (@aa _ _ _ _ _ (d_v 2) (@aa _ _ _ _ _ (d_v 3) (@aa _ _ _ _ _ (d_v 4) ah rfl) rfl) rfl) rfl) rfl)) d_i)))
theorem Ob :
  aR P' w K mg base CX0 5 oJ iK ["n","record","kept","k","ways_of"] (spD (vn ck bh)):=
 okQ T.KG F0 fun _ _ _ _ _ _ hr=>(ai (Dd 5 1 ["n","record","kept","k","ways_of","gone"] ["tie"] F0.nd (c_n 6 Jc rfl rfl) (d_v 1) (fun _ _ _ _ _=>cA (Pu hr (d_v 6) (d_v 2))) (fun _ _ _ _ _=>(d_v 6)))
  (av (s_r (cB 5 ["n","record","kept","k","ways_of","gone"] ["tie"] (c_n 6 Jd rfl rfl) (d_v 5) (fun _ _ _ _ _=>bX) (fun _ _ _ _ _=>(Pw (su hr (aN (d_v 6) d_i) (aN (d_v 6) d_i)) (aB (N_ T) (Br.hm hr) rfl T.QS T.KC.kp T.Fb (aa (d_v 3) ah)) (zD 4 (Oa T) (Br.hm hr) T.KD.kp T.Fc (@aa _ _ _ _ _ (d_v 0) (@aa _ _ _ _ _ (d_v 2) (@aa _ _ _ _ _ (aN (d_v 6) d_i) (@aa _ _ _ _ _ (aN (d_v 6) d_i) (@aa _ _ _ _ _ (d_v 3) ah rfl) rfl) rfl) rfl) rfl))))))))
theorem Oc :
  aR P' w K mg base CX0 4 oK iM ["n","kept","tie","k"] (spD ly):=
 okQ T.KH NV fun _ _ _ _ _ _ hr=>(av (s_r (aN (aB (F6 T) (Br.hm hr) rfl T.Nk T.IZ.kp T.E1 (@aa _ _ _ _ _ (d_v 0) (@aa _ _ _ _ _ (aB (Gd T) (Br.hm hr) rfl T.Ko T.E_.kp T.Ao (aa (d_v 1) (aa (d_v 2) ah))) (@aa _ _ _ _ _ (aN (d_v 2) d_i) (@aa _ _ _ _ _ (aN (d_v 2) d_i) (@aa _ _ _ _ _ (d_v 3) ah rfl) rfl) rfl) rfl) rfl)) d_i)))
theorem Od :
  aR P' w K mg base CX0 6 oM iN ["n","record","k"] (spD (zV ck bh)):=
 okQ T.KI yJ fun _ _ _ _ _ _ hr=>(ai (s_e (aB (Ga T) (Br.hm hr) rfl T.Km T.E8.kp T.Aq (aa (d_v 2) ah)))
  (ai (s_a 3 yJ.nd (aB (N9 T) (Br.hm hr) rfl T.QO T.KA.kp T.Fe (aa (d_v 0) (aa (d_v 1) (aa (d_v 2) (aa (Qa rfl T.SK) ah))))))
  (ai (Dd 4 3 ["n","record","k","kept","sides"] ["tie"] yJ.nd (c_n 5 Je rfl rfl) (d_v 3) (fun _ _ _ _ _=>bX) (fun _ _ _ _ _=>(aB (Oc T) (Br.hm hr) rfl T.QV T.KH.kp T.Fg (aa (d_v 0) (aa (d_v 3) (aa (d_v 5) (aa (d_v 2) ah)))))))
  (av (s_r (dg (aa (cB 3 ["n","record","k","kept","sides"] ["tie"] (c_n 5 Jf rfl rfl) (d_v 3) (fun _ _ _ _ _=>bX) (fun _ _ _ _ _=>(aN (d_v 5) d_i))) (aa (aB (Ob T) (Br.hm hr) rfl T.QU T.KG.kp T.Ff (@aa _ _ _ _ _ (d_v 0) (@aa _ _ _ _ _ (d_v 1) (@aa _ _ _ _ _ (d_v 3) (@aa _ _ _ _ _ (d_v 2) (@aa _ _ _ _ _ (Qa rfl T.QT) ah rfl) rfl) rfl) rfl) rfl)) (aa (d_v 4) ah)))))))))
theorem Oe :
  aR P' w K mg base CX0 1 oN iO ["layers","a","b"] (spD vp):=
 okQ T.KL yK fun _ _ _ _ _ _ hr=>(ai (dW Ua rfl (RZ rfl T.vY (d_v 0)) (g_t rfl (aY 3 yK.nd (aY 4 yK.nd f6)))
  (av (dB (lR hr (aN (d_v 4) (d_v 1)) (aN (d_v 4) (d_v 2))) (av (s_r (cQ (d_v 3) d_i))) bV)))
  (av (s_r d_i)))
theorem Ge :
  aR P' w K mg base CX0 5 oO iP ["n","record","k"] (spD rC):=
 okQ T.Fq ji fun _ _ _ _ _ _ hr=>(ai (s_e (aB (Ga T) (Br.hm hr) rfl T.Km T.E8.kp T.Aq (aa (d_v 2) ah)))
  (ai (Hx 3 ["n","record","k","layers","numbers","moment","a","b","number"] ["layer"] ji.nd (c_n 9 Jg rfl rfl) (A5 rfl T.bS (aa (d_v 2) ah)) (fun _ _ _ _ _=>bX) (fun _ _ _ _ _=>(Mn rfl rfl T.kO rfl T.bS (aa (d_v 0) ah))))
  (ai (s_a 4 ji.nd (dh ah))
  (ai (dW Ua rfl (PL rfl T.pO (d_v 1)) (g_t rfl (aY 5 ji.nd (aY 6 ji.nd (aY 7 ji.nd f6))))
  (ai (s_a 8 ji.nd (aB (Oe T) (Br.hm hr) rfl T.QX T.KL.kp T.Fo (aa (d_v 3) (aa (d_v 6) (aa (d_v 7) ah)))))
  (ai (dB (uu (d_v 8) d_i) (av (JN 3 (jH (d_v 8) d_i) (aB (N8 T) (Br.hm hr) rfl T.QN T.Kz.kp T.Fj (aa (aN (d_v 3) (jH (d_v 8) d_i)) (aa (d_v 6) (aa (d_v 7) ah)))))) bV)
  (av (ux 4 (d_v 8))))))
  (av (s_r (HC rfl rfl T.kO rfl T.pO (d_v 4))))))))
theorem Of :
  aR P' w K mg base CX0 1 oQ iQ ["thing"] (spD zW):=
 okQ T.KN NW fun _ _ _ _ _ _ hr=>(av (s_r (dg (aa (aN (d_v 0) d_i) (aa (xH rfl rfl T.EX (aa (aN (d_v 0) d_i) (aa (aN (d_v 0) d_i) ah))) (aa (xJ rfl rfl T.EW (aa (aN (d_v 0) d_i) (aa (aN (d_v 0) d_i) ah))) ah))))))
theorem Og :
  aR P' w K mg base CX0 1 oR iR ["ties"] (spD zX):=
 okQ T.KP F1 fun _ _ _ _ _ _ hr=>(av (dW Ua rfl (A6 rfl T.bS (aa d_i (aa (cR rfl T.cV (aa (d_v 0) ah)) ah))) (g_n 1 F1.nd)
  (av (dB (su hr (aN (aN (d_v 0) (jH (d_v 1) d_i)) d_i) (aN (aN (d_v 0) (d_v 1)) d_i)) (av gG) bV))))
theorem Oh :
  aR P' w K mg base CX0 5 oS iU ["n","things"] (spD zY):=by
 refine T.KQ.ok F2 (fun vs H Q E h=>kh h) (fun cdv A outer s H vs Q E hr h=>?_);obtain⟨fH,gD⟩:=T.gB;exact ⟨_,(ai (s_e (aB (N7 T) (Br.hm hr) rfl T.QM T.Ky.kp T.Ft (aa (d_v 0) ah)))
  (ai (dB (t_w (w_or (fM (eN (qH uy (by rfl) rfl T.kO rfl T.bR (d_v 1)))) (kX (fM (eN (C0 rfl rfl T.EV (aa (cB 1 ["n","things","ties"] ["thing"] (c_n 3 Jh rfl rfl) (d_v 1) (fun _ _ _ _ _=>bX) (fun _ _ _ _ _=>(aB (F_ T) (Br.hm hr) rfl T.Kl T.E7.kp T.Al (aa (d_v 0) (aa (d_v 3) ah))))) ah))))))) (av gG) bV)
  (ai (s_a 2 F2.nd (yb hr rfl rfl T.j3 rfl T.QG (cB 1 ["n","things","ties"] ["thing"] (c_n 3 Ji rfl rfl) (d_v 1) (fun _ _ _ _ _=>bX) (fun _ _ _ _ _=>(aB (Of T) (Br.hm hr) rfl T.QY T.KN.kp T.Fv (aa (d_v 3) ah))))))
  (ai (dB (uu (cR rfl T.cV (aa (d_v 2) ah)) (d_g rfl gD)) (av gG) bV)
  (ai (s_e (aB (Og T) (Br.hm hr) rfl T.QZ T.KP.kp T.Fw (aa (d_v 2) ah)))
  (av (s_r (d_v 2)))))))),CL (n:=2) (m:=1) rfl h⟩
theorem Oi :
  aR P' w K mg base CX0 6 oU iV ["n","thing"] (spD zZ):=by
 refine T.KR.ok NX (fun vs H Q E h=>kh h) (fun cdv A outer s H vs Q E hr h=>?_);obtain⟨fH,gD⟩:=T.gB;exact ⟨_,(ai (dB (t_w (w_or (fM (eN (aB (F7 T) (Br.hm hr) rfl T.Kf T.E3.kp T.Am (aa (d_v 0) ah)))) (w_or (fM (eN (qH uy (by rfl) rfl T.kO rfl T.bR (d_v 1)))) (kX (uu (cR rfl T.cV (aa (d_v 1) ah)) (d_g rfl gD)))))) (av (s_r d_b)) bV)
  (ai (dB (fM (eN (C0 rfl rfl T.EV (aa (cB 1 ["n","thing"] ["tie"] (c_n 2 Jj rfl rfl) (d_v 1) (fun _ _ _ _ _=>bX) (fun _ _ _ _ _=>(aB (N5 T) (Br.hm hr) rfl T.QK T.Kv.kp T.Fx (aa (d_v 0) (aa (d_v 2) ah))))) ah)))) (av (s_r d_b)) bV)
  (av (s_r (aB (N6 T) (Br.hm hr) rfl T.QL T.Kw.kp T.Fy (aa (cB 1 ["n","thing"] ["tie"] (c_n 2 Jk rfl rfl) (d_v 1) (fun _ _ _ _ _=>bX) (fun _ _ _ _ _=>(aN (d_v 2) d_i))) ah)))))),CL (n:=2) (m:=0) rfl h⟩
theorem Oj :
  aR P' w K mg base CX0 1 oV iW ["record","t"] (spD z0):=
 okQ T.KS NY fun _ _ _ _ _ _ hr=>(av (s_r (cB 0 ["record","t"] ["tie"] (c_n 2 Jl rfl rfl) (d_v 0) (fun _ _ _ _ _=>cA (Pr (aN (d_v 2) d_i) (d_v 1))) (fun _ _ _ _ _=>(d_v 2)))))
theorem Ol :
  aR P' w K mg base CX0 7 oW iX ["thing"] (spD z5):=
 okQ T.KU NZ fun _ _ _ _ _ _ hr=>(ai (dB (t_w (w_or (fM (eN (qH kit_tuple (by rfl) rfl T.mw rfl T.bR (d_v 0)))) (kX (lR hr (cR rfl T.cV (aa (d_v 0) ah)) d_i)))) (av (s_r d_b)) bV)
  (ai (dB (t_w (w_or (fM (eN (aB (F9 T) (Br.hm hr) rfl T.Kh T.E5.kp T.An (aa (aN (d_v 0) d_i) ah)))) (kX (fM (eN (aB (Oi T) (Br.hm hr) rfl T.Q2 T.KR.kp T.Fz (aa (aN (d_v 0) d_i) (aa (aN (d_v 0) d_i) ah)))))))) (av (s_r d_b)) bV)
  (av (s_r (Pq hr d_i (aB (Ge T) (Br.hm hr) rfl T.Kp T.Fq.kp T.Ar (aa (aN (d_v 0) d_i) (aa (aN (d_v 0) d_i) (aa (aN (d_v 0) d_i) ah)))))))))
theorem Om :
  aR P' w K mg base CX0 8 oX iY ["thing"] (spD z6):=
 okQ T.KW N1 fun _ _ _ _ _ _ hr=>(av (dB (fM (eN (aB (Ol T) (Br.hm hr) rfl T.Q4 T.KU.kp T.FA (aa (d_v 0) ah)))) (av gG) bV))
theorem yN :
  aR P' w K mg base CX0 6 oY iZ ["n","record","k"] (spD nN):=
 okQ T.As F3 fun _ _ _ _ _ _ hr=>(ai (s_a 3 F3.nd (aB (Ge T) (Br.hm hr) rfl T.Kp T.Fq.kp T.Ar (aa (d_v 0) (aa (d_v 1) (aa (d_v 2) ah)))))
  (av (s_r (dg (aa (d_v 0) (aa (d_v 2) (aa (Hw ["n","record","k","numbers"] ["tie","number"] (c_t rfl (fun _ _ _ _ _=>(aY 4 Ay (aY 5 Ay f6)))) (PM rfl T.QH (aa (d_v 1) (aa (d_v 3) ah))) (fun _ _ _ _ _=>cA (uu (d_v 5) d_i)) (fun _ _ _ _ _=>(d_v 4))) ah)))))))
theorem Oo :
  aR P' w K mg base CX0 2 oZ i6 ["n","ties","k"] (spD vq):=
 okQ T.KY kP fun _ _ _ _ _ _ hr=>(ai (s_a 3 kP.nd (dh (aa (dg ah) ah)))
  (ai (dW Ua rfl (A6 rfl T.bS (aa d_i (aa (d_v 0) ah))) (g_n 4 kP.nd)
  (ai (s_a 5 kP.nd (cB 1 ["n","ties","k","sides","place","among","both"] ["tie"] (c_n 7 Jm rfl rfl) (d_v 1) (fun _ _ _ _ _=>cA (RW (aN (d_v 7) d_i) (d_v 4))) (fun _ _ _ _ _=>(d_v 7))))
  (ai (s_a 6 kP.nd (cQ (d_v 3) (cB 3 ["n","ties","k","sides","place","among","both"] ["side"] (c_n 7 Jo rfl rfl) (d_v 3) (fun _ _ _ _ _=>bX) (fun _ _ _ _ _=>(MT (d_v 7) (dg (aa (d_v 4) ah)))))))
  (av (Dd 3 6 ["n","ties","k","sides","place","among","both"] ["side"] kP.nd (c_n 7 Jp rfl rfl) (d_v 6) (fun _ _ _ _ _=>cA (Hr (cR rfl T.cV (aa (aB (Gb T) (Br.hm hr) rfl T.Kn T.E9.kp T.Au (aa (d_v 5) (aa (d_v 7) ah))) ah)) (d_v 2))) (fun _ _ _ _ _=>(d_v 7)))))))
  (av (s_r (cB 3 ["n","ties","k","sides","place","among","both"] ["side"] (c_n 7 Jq rfl rfl) (d_v 3) (fun _ _ _ _ _=>cA (uu (cR rfl T.cV (aa (d_v 7) ah)) d_i)) (fun _ _ _ _ _=>(d_v 7)))))))
theorem yO :
  aR P' w K mg base CX0 9 jZ i7 ["net","t"] (spT (tbq aG aI bM bO) nQ):=by
 refine T.rS.okT yL (fun vs H Q E h=>kh h) (fun cdv A outer s H vs Q E hc hr ht h=>?_);exact ⟨_,(ai (s_e (aB (Om T) (Br.hm hr) rfl T.Q5 T.KW.kp T.FF (aa (d_v 0) ah)))
  (ai (s_a 2 yL.nd (aB (Oj T) (Br.hm hr) rfl T.Q3 T.KS.kp T.FD (aa (aN (d_v 0) d_i) (aa (d_v 1) ah))))
  (ai (Hx 3 ["net","t","ties","cuts"] ["side"] yL.nd (c_n 4 Jr rfl rfl) (i_S (aB (Oo T) (Br.hm hr) rfl T.Q6 T.KY.kp T.FG (aa (aN (d_v 0) d_i) (aa (d_v 2) (aa (aN (d_v 0) d_i) ah))))) (fun _ _ _ _ _=>bX) (fun _ _ _ _ _=>(dg (aa (d_v 4) (aa (aB (Gb T) (Br.hm hr) rfl T.Kn T.E9.kp T.Au (aa (d_v 2) (aa (d_v 4) ah))) ah)))))
  (av (s_r (u5 (k:=1) (Br.hm hr) rfl T.j3 (T.ql.tab (hc.trans T.cZ)) (ht _ (.head _)) fsc (fun _ _ _ _=>rfl) (aa (d_v 3) ah) (fun _ _ _ _ _ _ _=>(dg (aa (cR rfl T.cV (aa (aN (d_v 0) d_i) ah)) (aa (aN (d_v 0) d_i) ah)))))))))),CL (n:=2) (m:=2) rfl h⟩
theorem Oq :
  aR P' w K mg base CX0 1 o6 i8 ["script","k"] (spD vt):=
 okQ T.KZ N2 fun _ _ _ _ _ _ hr=>(ai (dB (Hr (d_v 1) (cR rfl T.cV (aa (d_v 0) ah))) (av (s_r (aN (d_v 0) (d_v 1)))) bV)
  (av (s_r d_i)))
theorem Gf :
  aR P' w K mg base CX0 2 o7 i9 ["script","at"] (spD rE):=
 okQ T.FJ gC fun _ _ _ _ _ _ hr=>(ai (s_a 2 gC.nd (aB (Oq T) (Br.hm hr) rfl T.Q7 T.KZ.kp T.FH (aa (d_v 0) (aa (d_v 1) ah))))
  (ai (dB (Pr (d_v 2) (CT d_i d_i)) (av (s_r (dh (aa (d_v 2) ah)))) bV)
  (ai (s_a 3 gC.nd d_i)
  (ai (dW Ua rfl (A5 rfl T.bS (aa d_i ah)) (g_n 4 gC.nd)
  (ai (s_a 5 gC.nd (mW (jI (cQ (cQ (cQ (mW (d_v 2) d_i) (jI (jI d_i (d_v 4)) (d_v 4))) (jI d_i (d_v 1))) d_i) d_i) d_i))
  (ai (s_a 5 gC.nd (mW (jI (d_v 5) (d_v 5)) d_i))
  (ai (s_a 5 gC.nd (mW (jI (cQ (d_v 5) (jI d_i (d_v 4))) d_i) d_i))
  (av (s_a 3 gC.nd (cQ (jI (d_v 3) d_i) (mW (JM (d_v 5) d_i) d_i))))))))
  (av (s_r (dh (aa (d_v 3) ah))))))))
theorem cE :
  aR P' w K mg base CX0 1 o8 i_ ["pool","many"] (spM b_):=by
 refine T.dU.ok F4 (fun vs H Q E h=>jL h) (fun cdv A outer s H vs Q E hr h=>?_);exact ⟨_,(ai (s_a 2 F4.nd (mW (aN (d_v 0) d_i) (d_v 1)))
  (ai (JN 0 d_i (JM (aN (d_v 0) d_i) (d_v 1)))
  (av (s_r (d_v 2))))),zu (n:=2) (m:=1) rfl h⟩
theorem Ot :
  aR P' w K mg base CX0 2 o9 jb ["pool","n","most"] (spM vv):=by
 refine T.K0.ok c_ (fun vs H Q E h=>jL h) (fun cdv A outer s H vs Q E hr h=>?_);exact ⟨_,(ai (s_a 3 c_.nd (bz (cE T) (Br.hm hr) rfl T.d7 T.dU.kp T.di (aa (d_v 0) (aa (cQ (d_v 2) d_i) ah))))
  (ai (s_a 4 c_.nd (bz (cE T) (Br.hm hr) rfl T.d7 T.dU.kp T.di (aa (d_v 0) (aa d_i ah))))
  (ai (s_a 5 c_.nd (bz (cE T) (Br.hm hr) rfl T.d7 T.dU.kp T.di (aa (d_v 0) (aa d_i ah))))
  (ai (s_a 6 c_.nd (dh ah))
  (ai (dW Ua rfl (A5 rfl T.bS (aa (d_v 3) ah)) (g_n 7 c_.nd)
  (ai (s_a 8 c_.nd (bz (cE T) (Br.hm hr) rfl T.d7 T.dU.kp T.di (aa (d_v 0) (aa (d_v 1) ah))))
  (ai (s_a 9 c_.nd (bz (cE T) (Br.hm hr) rfl T.d7 T.dU.kp T.di (aa (d_v 0) (aa (d_v 1) ah))))
  (ai (dB (t_w (w_and (uu (d_v 4) d_i) (xK (su hr (d_v 8) (d_v 9))))) (av (s_a 9 c_.nd (mW (cQ (d_v 8) d_i) (d_v 1)))) bV)
  (ai (dB (t_w (w_and (uu (d_v 7) d_i) (xK (su hr (bz (cE T) (Br.hm hr) rfl T.d7 T.dU.kp T.di (aa (d_v 0) (aa d_i ah))) d_i)))) (ai (s_a 8 c_.nd (aN (aN (d_v 6) (jH (d_v 7) d_i)) d_i))
  (av (s_a 9 c_.nd (aN (aN (d_v 6) (jH (d_v 7) d_i)) d_i)))) bV)
  (ai (ux 6 (dg (aa (d_v 5) (aa (xH rfl rfl T.EX (aa (d_v 8) (aa (d_v 9) ah))) (aa (xJ rfl rfl T.EW (aa (d_v 8) (aa (d_v 9) ah))) ah)))))
  (av (s_a 5 c_.nd (cQ (cQ (d_v 5) d_i) (jI (bz (cE T) (Br.hm hr) rfl T.d7 T.dU.kp T.di (aa (d_v 0) (aa (aN (dh (aa d_i (aa d_i (aa d_i ah)))) (d_v 4)) ah))) (aN (dh (aa d_i (aa d_i (aa (CT d_i d_i) ah)))) (d_v 4))))))))))))
  (av (s_r (d_v 6)))))))),zu (n:=3) (m:=7) rfl h⟩
theorem Gg :
  aR P' w K mg base CX0 1 o_ jc ["record","side"] (spD vz):=
 okQ T.FL N3 fun _ _ _ _ _ _ hr=>(av (s_r (cB 0 ["record","side"] ["moment","a","b"] (c_t rfl (fun _ _ _ _ _=>(aY 2 tP (aY 3 tP (aY 4 tP f6))))) (d_v 0) (fun _ _ _ _ _=>cA (lR hr (AX hr (d_v 3) (d_v 1)) (AX hr (d_v 4) (d_v 1)))) (fun _ _ _ _ _=>(d_v 2)))))
theorem Ou :
  aR P' w K mg base CX0 1 pq jd ["n"] (spD vA):=
 okQ T.K1 yM fun _ _ _ _ _ _ hr=>(ai (s_a 1 yM.nd (dh ah))
  (ai (dW Ua rfl (A6 rfl T.bS (aa d_i (aa (PN d_i (jH (d_v 0) d_i)) ah))) (g_n 2 yM.nd)
  (av (ux 1 (zm rfl T.mw (aa (Hw ["n","found","bits"] ["place"] (c_n 3 Js rfl rfl) (A6 rfl T.bS (aa d_i (aa (d_v 0) ah))) (fun _ _ _ _ _=>cA (su hr (Mc (Pp (d_v 2) (jH (d_v 3) d_i)) d_i) d_i)) (fun _ _ _ _ _=>(d_v 3))) ah)))))
  (av (s_r (d_v 1)))))
theorem Ov :
  aR P' w K mg base CX0 2 pA je ["pool","record"] (spM vC):=by
 refine T.K3.ok kQ (fun vs H Q E h=>jL h) (fun cdv A outer s H vs Q E hr h=>?_);exact ⟨_,(ai (s_a 2 kQ.nd (dh ah))
  (ai (dW Ua rfl (i_S (d_v 1)) (g_t rfl (aY 3 kQ.nd (aY 4 kQ.nd (aY 5 kQ.nd f6))))
  (ai (s_a 6 kQ.nd (aN (dh (aa (dg (aa (d_v 3) (aa (d_v 4) (aa (d_v 5) ah)))) (aa (dg (aa (d_v 3) (aa (d_v 5) (aa (d_v 4) ah)))) ah))) (bz (cE T) (Br.hm hr) rfl T.d7 T.dU.kp T.di (aa (d_v 0) (aa d_i ah)))))
  (ai (J1 2 (bz (cE T) (Br.hm hr) rfl T.d7 T.dU.kp T.di (aa (d_v 0) (aa (cQ (cR rfl T.cV (aa (d_v 2) ah)) d_i) ah))) (d_v 6))
  (av (dB (su hr (bz (cE T) (Br.hm hr) rfl T.d7 T.dU.kp T.di (aa (d_v 0) (aa d_i ah))) d_i) (av (J1 2 (bz (cE T) (Br.hm hr) rfl T.d7 T.dU.kp T.di (aa (d_v 0) (aa (cQ (cR rfl T.cV (aa (d_v 2) ah)) d_i) ah))) (dg (aa (d_v 3) (aa (d_v 4) (aa (d_v 5) ah)))))) bV)))))
  (av (s_r (d_v 2))))),zu (n:=2) (m:=5) rfl h⟩
theorem Gh :
  aR P' w K mg base CX0 7 pB jf ["n","record","k"] (spD (vD ck bh)):=
 okQ T.FP F5 fun _ _ _ _ _ _ hr=>(ai (s_a 3 F5.nd (aN (aB (Od T) (Br.hm hr) rfl T.QW T.KI.kp T.FO (aa (d_v 0) (aa (CV rfl T.kO (aa (d_v 1) ah)) (aa (d_v 2) ah)))) d_i))
  (av (s_r (cB 1 ["n","record","k","moments"] ["tie"] (c_n 4 Jt rfl rfl) (d_v 1) (fun _ _ _ _ _=>cA (RX hr (aN (d_v 4) d_i) (d_v 3))) (fun _ _ _ _ _=>(d_v 4))))))
theorem Ow :
  aR P' w K mg base CX0 10 pC gA ["script"] (spT (tbq aG aI bM bO) (rF ck bh)):=by
 refine Ii T.Rj dc (fun vs H Q E h=>kh h) (fun cdv A outer s H vs Q E hc hr ht h=>?_);exact ⟨_,(ai (s_a 1 dc.nd (aB (Gf T) (Br.hm hr) rfl T.Kq T.FJ.kp T.Av (aa (d_v 0) (aa d_i ah))))
  (ai (s_a 2 dc.nd (cQ d_i (bz (cE T) (Br.hm hr) rfl T.d7 T.dU.kp T.di (aa (d_v 1) (aa d_i ah)))))
  (ai (dW Ua rfl (A6 rfl T.bS (aa d_i (aa (xJ rfl rfl T.EW (aa d_i (aa (xH rfl rfl T.EX (aa d_i (aa (cR rfl T.cV (aa (d_v 0) ah)) ah))) ah))) ah))) (g_n 3 dc.nd)
  (ai (s_a 1 dc.nd (aB (Gf T) (Br.hm hr) rfl T.Kq T.FJ.kp T.Av (aa (d_v 0) (aa (d_v 3) ah))))
  (ai (s_a 4 dc.nd (cQ d_i (bz (cE T) (Br.hm hr) rfl T.d7 T.dU.kp T.di (aa (d_v 1) (aa (aN (dh (aa d_i (aa d_i ah))) (bz (cE T) (Br.hm hr) rfl T.d7 T.dU.kp T.di (aa (d_v 1) (aa d_i ah)))) ah)))))
  (ai (s_a 5 dc.nd (bz (Ot T) (Br.hm hr) rfl T.Q8 T.K0.kp T.FU (aa (d_v 1) (aa (d_v 2) (aa d_i ah)))))
  (ai (s_a 6 dc.nd (Ie 5 (aB (Oh T) (Br.hm hr) rfl T.Q0 T.KQ.kp T.FQ (aa (d_v 2) (aa (bz (Ov T) (Br.hm hr) rfl T.Q_ T.K3.kp T.FY (aa (d_v 1) (aa (d_v 5) ah))) ah)))))
  (ai (s_a 7 dc.nd (aB (yN T) (Br.hm hr) rfl T.EY T.As.kp T.vZ (aa (d_v 2) (aa (d_v 6) (aa (d_v 4) ah)))))
  (ai (Hx 8 ["script","pool","n","at","k","record","told","net","due","kept"] ["side"] dc.nd (c_n 10 Ju rfl rfl) (i_S (aB (Ou T) (Br.hm hr) rfl T.Q9 T.K1.kp T.FW (aa (d_v 2) ah))) (fun _ _ _ _ _=>cA (Hr (cR rfl T.cV (aa (aB (Gg T) (Br.hm hr) rfl T.Kr T.FL.kp T.Aw (aa (d_v 5) (aa (d_v 10) ah))) ah)) (d_v 4))) (fun _ _ _ _ _=>(dg (aa (d_v 10) (aa (aB (Gg T) (Br.hm hr) rfl T.Kr T.FL.kp T.Aw (aa (d_v 5) (aa (d_v 10) ah))) ah)))))
  (ai (s_a 8 dc.nd (u5 (k:=1) (Br.hm hr) rfl T.j3 (T.Nj.tab (hc.trans T.pQ)) (ht _ (.tail _ (.head _))) fsc (fun _ _ _ _=>rfl) (aa (d_v 8) ah) (fun _ _ _ _ _ _ _=>(dg (aa (cR rfl T.cV (aa (aN (d_v 0) d_i) ah)) (aa (aN (d_v 0) d_i) ah))))))
  (ai (dB (t_w (w_or (lR hr (d_v 6) (d_v 5)) (w_or (lR hr (nI ht (yO T) (Br.hm hr) rfl T.EZ T.rS.kp T.pP (aa (d_v 7) ah)) (d_v 8)) (kX (lR hr (nI ht (yO T) (Br.hm hr) rfl T.EZ T.rS.kp T.pP (aa (aB (yN T) (Br.hm hr) rfl T.EY T.As.kp T.vZ (aa (d_v 2) (aa (aB (Gh T) (Br.hm hr) rfl T.Ks T.FP.kp T.Ax (aa (d_v 2) (aa (d_v 6) (aa (d_v 4) ah)))) (aa (d_v 4) ah)))) ah)) (d_v 8)))))) (av (s_r d_b)) bV)
  (ai (s_a 9 dc.nd (aB (Gh T) (Br.hm hr) rfl T.Ks T.FP.kp T.Ax (aa (d_v 2) (aa (aN (d_v 7) d_i) (aa (d_v 4) ah)))))
  (av (dB (t_w (w_or (uu (cR rfl T.cV (aa (d_v 9) ah)) (cR rfl T.cV (aa (aN (d_v 7) d_i) ah))) (kX (lR hr (nI ht (yO T) (Br.hm hr) rfl T.EZ T.rS.kp T.pP (aa (aB (yN T) (Br.hm hr) rfl T.EY T.As.kp T.vZ (aa (d_v 2) (aa (d_v 9) (aa (d_v 4) ah)))) ah)) (d_v 8))))) (av (s_r d_b)) bV))))))))))))
  (av (s_r d_b))))),CL (n:=1) (m:=9) rfl h⟩
end
theorem all_mk{l:Xc}{w:World}{K:Dp}{h:Heap}{mg:Str->Option Value}{fa yx yz yC yD yE yF yG ck yH yI n8 n9 n_ oh oj oq ou oz oA oB oE oF oG oH bh oJ oK oM oN oO oQ oR oS oU oV oW oX oY oZ jZ o6 o7 o8 o9 o_ pq pA pB pC aG aI bM bO:Addr}{pD pF pG pH pI pJ pK pL pM pN ie ig ir iw iz iA iB iC iD iE iF iG iH iI iJ iK iM iN iO iP iQ iR iU iV iW iX iY iZ i6 i8 i9 i_ jb jc jd je jf gA:FuncData}(X:K.In h)(G:h.Ns mainGlobals mg)(hfa:mg "law" = some (.ref fa))
  {Ox pS:Option Addr} {Oz:Array (Option Value)} {OA pT pU pV jj pW:Value} {kR:Addr} {jh:Tok} {qo:Nat} {pX:Value} {pY:Option Addr} {pZ:Array (Option Value)}
  {fH:Tok}
  (Gi:aZ K "steps_of" (top 3) yx pD)
  (Gj:aZ K "free_steps" (top 4) yz pF)
  (Gk:aZ K "led_steps" (top 5) yC pG)
  (Gm:aZ K "shortest_ways" (top 6) yD pH)
  (Gn:aZ K "lead_along" (top 7) yE pI)
  (Gp:aZ K "parted" (top 8) yF pJ)
  (Gq:aZ K "ways_apart" (top 1) yG pK)
  (Gr:aZ K "hang_often" (top 2) ck pL)
  (Gs:aZ K "is_whole" (top 17) yH pM)
  (Gu:aZ K "is_within" (top 18) yI pN)
  (v8:aZ K "is_places" (top 19) n8 ie)
  (v9:aZ K "is_place" (top 20) n9 ig)
  (v_:aZ K "is_layers" (top 21) n_ ir)
  (wc:aZ K "is_moment" (top 22) oh iw)
  (we:aZ K "is_tie_either_way" (top 23) oj iz)
  (wg:aZ K "is_tie" (top 24) oq iA)
  (wj:aZ K "is_rising" (top 25) ou iB)
  (wk:aZ K "look_at_places" (top 26) oz iC)
  (wo:aZ K "look_at_layers" (top 27) oA iD)
  (wu:aZ K "rim" (top 29) oB iE)
  (wz:aZ K "merged" (top 30) oE iF)
  (wA:aZ K "without" (top 34) oF iG)
  (wB:aZ K "kept_ties" (top 33) oG iH)
  (wC:aZ K "no_ways" (top 36) oH iI)
  (wD:aZ K "ways_by_ties" (top 37) bh iJ)
  (wF:aZ K "ways_out" (top 35) oJ iK)
  (wG:aZ K "side_for" (top 38) oK iM)
  (wH:aZ K "pared" (top 32) oM iN)
  (wI:aZ K "least_layer" (top 41) oN iO)
  (wJ:aZ K "layered" (top 40) oO iP)
  (wK:aZ K "put_in_order" (top 45) oQ iQ)
  (wL:aZ K "look_for_clash" (top 46) oR iR)
  (wM:aZ K "record_of" (top 44) oS iU)
  (wN:aZ K "is_record" (top 47) oU iV)
  (wO:aZ K "since" (top 48) oV iW)
  (wQ:aZ K "is_net" (top 50) oW iX)
  (wR:aZ K "look_at_net" (top 51) oX iY)
  (wU:aZ K "net_of" (top 52) oY iZ)
  (wV:aZ K "thin_sides" (top 55) oZ i6)
  (Gv:T7 K mainGlobals "small_cuts" = some (some (.ref jZ))) (Gw:K.lookup jZ=some ⟨OA,Ox,.func (TR "small_cuts" "small_cuts" (aS (top 54)) (aO (top 54)) (af (top 54)) (.ref kR) pT pU pV pS jj pW),Oz⟩) (Gx:Vk K jj "small_cuts" = true) (Gy:Ut K (.ref jZ)=true)
  (AA:K.lookup kR=some ⟨pX,pY,.seq #[.int 0 jh] qo,pZ⟩)
  (wW:aZ K "_law_cell_at" (top 57) o6 i8)
  (wX:aZ K "_law_pool" (top 58) o7 i9)
  (wY:aZ K "_law_take" (top 59) o8 i_)
  (wZ:aZ K "_law_record" (top 60) o9 jb)
  (w_:aZ K "_law_rim" (top 61) o_ jc)
  (xg:aZ K "_law_sides" (top 62) pq jd)
  (xh:aZ K "_law_things" (top 63) pA je)
  (xj:aZ K "_law_kept" (top 64) pB jf)
  (rU:aZ K "law" (top 65) pC gA)
  (fJ:jj=.ref aG)
  (Gz:gA.code=.ref bM)
  (GA:T7 K mainGlobals "all" = some none)
  (yP:T7 K mainGlobals "bool" = some none)
  (yQ:T7 K mainGlobals "dict" = some none)
  (gE:T7 K mainGlobals "enumerate" = some none)
  (GB:T7 K mainGlobals "int" = some none)
  (fL:T7 K mainGlobals "isinstance" = some none)
  (GC:T7 K mainGlobals "len" = some none)
  (yR:T7 K mainGlobals "list" = some none)
  (GD:T7 K mainGlobals "max" = some none)
  (GF:T7 K mainGlobals "min" = some none)
  (tQ:T7 K mainGlobals "range" = some none)
  (jm:T7 K mainGlobals "reversed" = some none)
  (GG:T7 K mainGlobals "set" = some none)
  (p5:T7 K mainGlobals "sorted" = some none)
  (tR:T7 K mainGlobals "tuple" = some none)
  (GH:T7 K mainGlobals "zip" = some none)
  (gF:T7 K mainGlobals "MOST_TIES" = some (some (.int 60 fH))) :
  ∃fd:FuncData,(∀(s:Shared) (v:Value),BindsTo s fd ⟨[v],[]⟩ [("script",v)])/\∀base:Heap,K.In base->base.Ns mainGlobals mg->(∀z∈tbq aG aI bM bO,jO mg base z)->aR l.prog w K mg base CX0 10 fa fd ["script"] (spT (tbq aG aI bM bO) (rF ck bh)):=by
 have e:=hfa.symm.trans (rU.m X G);cases e;have Nn:=Gi.F.bE (ps:=["n","ties"]) rfl fun _ _ _ _ _ _ _ _=>rfl;have Np:=Gj.F.bE (ps:=["steps","heads"]) rfl fun _ _ _ _ _ _ _ _=>rfl;have Nm:=Gk.F.bE (ps:=["steps","heads"]) rfl fun _ _ _ _ _ _ _ _=>rfl;have IY:=Gm.F.bE (ps:=["steps","a"]) rfl fun _ _ _ _ _ _ _ _=>rfl;have Nq:=Gn.F.bE (ps:=["heads","way"]) rfl fun _ _ _ _ _ _ _ _=>rfl;have Nr:=Gp.F.nB (ps:=["steps","heads","a","b","count"]) rfl fun _ _ _ _ _ _ _ _ _ _ _=>rfl;have E1:=Gq.F.nB (ps:=["n","ties","a","b","most"]) rfl fun _ _ _ _ _ _ _ _ _ _ _=>rfl;have Nu:=Gr.F.nB (ps:=["n","ties","a","b","times"]) rfl fun _ _ _ _ _ _ _ _ _ _ _=>rfl;have Nt:=Gs.F.cK (ps:=["thing"]) rfl fun _ _ _ _ _ _ _=>rfl;have BZ:=Gu.F.fE (ps:=["thing","low","high"]) rfl fun _ _ _ _ _ _ _ _ _=>rfl;have Am:=v8.F.cK (ps:=["thing"]) rfl fun _ _ _ _ _ _ _=>rfl;have Ak:=v9.F.bE (ps:=["n","thing"]) rfl fun _ _ _ _ _ _ _ _=>rfl;have An:=v_.F.cK (ps:=["thing"]) rfl fun _ _ _ _ _ _ _=>rfl;have E6:=wc.F.cK (ps:=["thing"]) rfl fun _ _ _ _ _ _ _=>rfl;have Al:=we.F.bE (ps:=["n","thing"]) rfl fun _ _ _ _ _ _ _ _=>rfl;have Fx:=wg.F.bE (ps:=["n","thing"]) rfl fun _ _ _ _ _ _ _ _=>rfl;have Fy:=wj.F.cK (ps:=["things"]) rfl fun _ _ _ _ _ _ _=>rfl;have Ft:=wk.F.cK (ps:=["n"]) rfl fun _ _ _ _ _ _ _=>rfl;have Aq:=wo.F.cK (ps:=["k"]) rfl fun _ _ _ _ _ _ _=>rfl;have Au:=wu.F.bE (ps:=["record","side"]) rfl fun _ _ _ _ _ _ _ _=>rfl;have Fj:=wz.F.fE (ps:=["groups","a","b"]) rfl fun _ _ _ _ _ _ _ _ _=>rfl;have Ao:=wA.F.bE (ps:=["ties","tie"]) rfl fun _ _ _ _ _ _ _ _=>rfl;have Fe:=wB.F.DC (ps:=["n","record","k","often"]) rfl fun _ _ _ _ _ _ _ _ _ _=>rfl;have Fb:=wC.F.cK (ps:=["k"]) rfl fun _ _ _ _ _ _ _=>rfl;have Fc:=wD.F.nB (ps:=["n","kept","a","b","k"]) rfl fun _ _ _ _ _ _ _ _ _ _ _=>rfl;have Ff:=wF.F.nB (ps:=["n","record","kept","k","ways_of"]) rfl fun _ _ _ _ _ _ _ _ _ _ _=>rfl;have Fg:=wG.F.DC (ps:=["n","kept","tie","k"]) rfl fun _ _ _ _ _ _ _ _ _ _=>rfl;have FO:=wH.F.fE (ps:=["n","record","k"]) rfl fun _ _ _ _ _ _ _ _ _=>rfl;have Fo:=wI.F.fE (ps:=["layers","a","b"]) rfl fun _ _ _ _ _ _ _ _ _=>rfl;have Ar:=wJ.F.fE (ps:=["n","record","k"]) rfl fun _ _ _ _ _ _ _ _ _=>rfl;have Fv:=wK.F.cK (ps:=["thing"]) rfl fun _ _ _ _ _ _ _=>rfl;have Fw:=wL.F.cK (ps:=["ties"]) rfl fun _ _ _ _ _ _ _=>rfl;have FQ:=wM.F.bE (ps:=["n","things"]) rfl fun _ _ _ _ _ _ _ _=>rfl;have Fz:=wN.F.bE (ps:=["n","thing"]) rfl fun _ _ _ _ _ _ _ _=>rfl;have FD:=wO.F.bE (ps:=["record","t"]) rfl fun _ _ _ _ _ _ _ _=>rfl;have FA:=wQ.F.cK (ps:=["thing"]) rfl fun _ _ _ _ _ _ _=>rfl;have FF:=wR.F.cK (ps:=["thing"]) rfl fun _ _ _ _ _ _ _=>rfl;have vZ:=wU.F.fE (ps:=["n","record","k"]) rfl fun _ _ _ _ _ _ _ _ _=>rfl;have FG:=wV.F.fE (ps:=["n","ties","k"]) rfl fun _ _ _ _ _ _ _ _ _=>rfl;have rS:=HM (st:=top 54) Gw Gx Gy;have K4:Binds K (TR "small_cuts" "small_cuts" (aS (top 54)) (aO (top 54)) (af (top 54)) (.ref kR) pT pU pV pS jj pW) ["net","t"] []:=fun s us hIn hl=>match us,hl with | [_,_],_=>PySem.W.binds_K hIn rfl AA rfl rfl rfl
 have cZ:(TR "small_cuts" "small_cuts" (aS (top 54)) (aO (top 54)) (af (top 54)) (.ref kR) pT pU pV pS jj pW).code=.ref aG:=fJ;have pP:Binds K (TR "small_cuts" "small_cuts" (aS (top 54)) (aO (top 54)) (af (top 54)) (.ref kR) pT pU pV pS jj pW) ["net","t"] [.int 0 jh]:=fun s us hIn hl=>ML (C:=fun us=>BindsTo s (TR "small_cuts" "small_cuts" (aS (top 54)) (aO (top 54)) (af (top 54)) (.ref kR) pT pU pV pS jj pW) ⟨us,[]⟩ ((["net","t"]:List Str).zip (us++[.int 0 jh]))) (by simpa using hl) fun _=>PySem.W.binds_K hIn rfl AA rfl rfl rfl;have FH:=wW.F.bE (ps:=["script","k"]) rfl fun _ _ _ _ _ _ _ _=>rfl;have Av:=wX.F.bE (ps:=["script","at"]) rfl fun _ _ _ _ _ _ _ _=>rfl;have di:=wY.F.bE (ps:=["pool","many"]) rfl fun _ _ _ _ _ _ _ _=>rfl;have FU:=wZ.F.fE (ps:=["pool","n","most"]) rfl fun _ _ _ _ _ _ _ _ _=>rfl;have Aw:=w_.F.bE (ps:=["record","side"]) rfl fun _ _ _ _ _ _ _ _=>rfl;have FW:=xg.F.cK (ps:=["n"]) rfl fun _ _ _ _ _ _ _=>rfl;have FY:=xh.F.bE (ps:=["pool","record"]) rfl fun _ _ _ _ _ _ _ _=>rfl;have Ax:=xj.F.fE (ps:=["n","record","k"]) rfl fun _ _ _ _ _ _ _ _ _=>rfl;have pQ:=Gz;refine⟨_,fun s v=>rU.Sf (fun _ _ _ _ _ _ _=>rfl) s v,fun base Xb _ hBT=>?_⟩;have T:Txt mg K base ..:=⟨mno X G GA,mno X G yP,mno X G yQ,mno X G gE,mno X G GB,mno X G fL,mno X G GC,mno X G yR,mno X G GD,mno X G GF,mno X G tQ,mno X G jm,mno X G GG,mno X G p5,mno X G tR,mno X G GH,hBT _ (.head _),hBT _ (.tail _ (.head _)),⟨_,mgo X G gF⟩,Gi.m X G,Gj.m X G,Gk.m X G,Gm.m X G,Gn.m X G,Gp.m X G,Gq.m X G,Gr.m X G,Gs.m X G,Gu.m X G,v8.m X G,v9.m X G,v_.m X G,wc.m X G,we.m X G,wg.m X G,wj.m X G,wk.m X G,wo.m X G,wu.m X G,wz.m X G,wA.m X G,wB.m X G,wC.m X G,wD.m X G,wF.m X G,wG.m X G,wH.m X G,wI.m X G,wJ.m X G,wK.m X G,wL.m X G,wM.m X G,wN.m X G,wO.m X G,wQ.m X G,wR.m X G,wU.m X G,wV.m X G,mgo X G Gv,wW.m X G,wX.m X G,wY.m X G,wZ.m X G,w_.m X G,xg.m X G,xh.m X G,xj.m X G,rU.m X G,Gi.F,Gj.F,Gk.F,Gm.F,Gn.F,Nm,IY,Gp.F,Nn,Np,Nq,Nr,Gq.F,E1,Gr.F,Gs.F,Nt,Gu.F,BZ,v8.F,v9.F,v_.F,wc.F,Ak,E6,we.F,Al,wg.F,wj.F,Am,wk.F,An,wo.F,wu.F,wz.F,wA.F,Nu,Ao,wB.F,wC.F,wD.F,Fb,Fc,wF.F,wG.F,Aq,Fe,Ff,Fg,wH.F,wI.F,Fj,Fo,wJ.F,wK.F,wL.F,Ft,Fv,Fw,wM.F,Fx,Fy,wN.F,wO.F,Ar,Fz,wQ.F,FA,wR.F,wU.F,Au,wV.F,FD,FF,FG,cZ,rS,wW.F,FH,wX.F,wY.F,di,wZ.F,w_.F,xg.F,xh.F,FO,xj.F,FQ,vZ,K4,pP,Av,FU,Aw,FW,FY,Ax,pQ,rU.F⟩
 exact Ow T
theorem walk{aG aI bM bO:Addr}{l:Xc}{q:Program}{loose:List Str}{XP:(Str->Option Value)->Heap->Prop}{YP:World->Heap->Prop}{d:DefRec}{K:Params->Dp}(hn:l.most=some 63)(hdf:d.params.defaults=[])
  (hY:∀(w:World) (h:Heap),YP w h->(K w.params).In h) (hT:∀(w:World) (h:Heap),YP w h->∀P∈([aI,bO]:List Addr),h.get? P=some (WK #[])) (J5:aI≠bO) (hC:∀(w:World),PySem.W.codeHdIn (K w.params) aG aI=true/\PySem.W.codeHdIn (K w.params) bM bO=true) (hKt:∀w:World,Xn (K w.params)=true) (M:∀ns:List Int,ns.length<=63->rF ck bh [.lst (ns.map Dat.int)]=some (.val (.bl true))) (hK:∀w:World,C1 (K w.params)=true)
  (F:∀ (w:World) (mg:Str→Option Value) (fa:Addr) (h:Heap),(K w.params).In h→h.Ns mainGlobals mg→mg d.name=some (.ref fa) →
   ∃fd:FuncData,(∀(s:Shared) (u:Value),BindsTo s fd ⟨[u],[]⟩ [("script",u)])/\∀base:Heap,(K w.params).In base->base.Ns mainGlobals mg->(∀z∈tbq aG aI bM bO,jO mg base z)->aR l.prog w (K w.params) mg base CX0 10 fa fd ["script"] (spT (tbq aG aI bM bO) (rF ck bh))) :
  PySem.W.WalkO q loose XP YP l.row.toRowW d [] (fun f vs=>PySem.call f vs):=
 Br.D7 (n:=63) (k:=10) (x := "script") (tb:=tbq aG aI bM bO) hn (by decide) hdf ⟨rfl,by decide,by decide,rfl⟩ hY (fun w h Y z hz=>by rcases S4.mp hz with rfl | hz;exact⟨PySem.W.codeHd_of_K (hY w h Y) (hC w).1,hT w h Y _ (.head _)⟩;rw[Th.mp hz];exact⟨PySem.W.codeHd_of_K (hY w h Y) (hC w).2,hT w h Y _ (.tail _ (.head _))⟩) (by simpa using J5) hKt F
  fun w H a ns hl hS=>Mi (M ns hl) (hK w) hS
end Q
noncomputable def PySem.W.Fast.tw15615612977611816946:PySem.Program:=PySem.Challenge.pw_sinceply_k72_whole_pared_and_cut
theorem PySem.W.Fast.te15615612977611816946:PySem.Challenge.pw_sinceply_k72_whole_pared_and_cut=PySem.W.Fast.tw15615612977611816946:=rfl
namespace PySem.W.Fast
def tw14390487312031863694:=0
def tw2706875215995246708:=0
def tw5330267030888847209:=0
def tw13184383404623586113:=0
def tw9938465942749906795:=0
def tw11188349383433722524:=0
def tw4127870526814230207:=0
def tw5388418300174751720:=0
def tw952070879330206870:=0
def tw3367012278638605260:=0
def tw9533744847783727097:=0
def tw5850862498628342923:=0
def tw17984935128024705293:=0
def tw16600719247961150434:=0
def tw17451425367123537127:=0
def tw18229554382404551624:=0
def tw8929722349882979871:=0
def tw3643917450091527220:=0
def tw14697268499354760770:=0
def tw1322865228912512720:=0
def tw9710161458511832913:=0
def tw14387040975253675876:=0
def tw7866347288264494777:=0
def tw5065851908005465896:=0
def tw7080918455788840214:=0
def tw7582565561023854776:=0
def tw16583068713733254690:=0
def tw7697321688552992190:=0
def tw11014776359250714337:=0
def tw12489801714830721728:=0
def tw15744644652076955499:=0
def tw9041059783504890664:=0
def tw3308426780788174915:=0
def tw11638774330782540176:=0
def tw10586956968745894248:=0
def tw15757684057159429533:=0
def tw4316149364582145068:=0
def tw2603925927477141672:=0
def tw17359830434505456629:=0
def tw14488878773836593913:=0
def tw14559170969793193532:=0
def tw5650240544097296146:=0
def tw18226615625647763219:=0
def tw4949689134281627638:=0
def tw11298481974950783573:=0
def tw11649464108529226844:=0
def tw17194344910360700531:=0
def tw11071377085845758605:=0
def tw6234459259863952461:=0
def tw16266485328330123501:=0
def tw18374410460657613969:=0
def tw1382983858485073772:=0
def tw11574463688688197063:=0
def tw13471510935821354095:=0
def tw258158339279744707:=0
def tw4789942513241398299:=0
def tw156160204545354460:=0
def tw17437840301358971217:=0
def tw4660272406873294539:=0
def tw14575499345206831202:=0
def tw5127460202435799171:=0
def tw15145809398415712300:=0
def tw7213967902089256817:=0
def tw13662753678963795654:=0
def tw9633845110939186901:=0
def tw15111326785841852747:=0
def tw5593253316411996644:=0
def tw15444294933459848933:=0
def tw10320325958041936722:=0
def tw8332906600515811251:=0
def tw4878151491928966847:=0
def tw7494063768002202639:=0
def tw9561546037478201246:=0
def tw13972278100173592201:=0
def tw11772021410968746010:=0
def tw682292062528453460:=0
def tw17214412799516805629:=0
def tw1080297043485610966:=0
def tw14056885988379560517:=0
def tw4825565372972661806:=0
def tw15510415774874137660:=0
def tw6165460481340533928:=0
def tw2801889803500426991:=0
def tw9409651654342613802:=0
def tw8890918786227479534:=0
def tw9103272548932883512:=0
def tw2873778261374354989:=0
def tw14896170614630743400:=0
def tw657375519137083836:=0
def tw3001688052176743412:=0
def tw16080296508082218290:=0
def tw3991313549093474082:=0
def tw15555596548997123715:=0
def tw1302093395322838493:=0
def tw16114566075667810170:=0
def tw10334958239827994347:=0
def tw2660907959676032615:=0
def tw13886519606676187068:=0
def tw4204662668969148630:=0
def tw18359559622033564216:=0
def tw313405969769552964:=0
def tw17363931371853879927:=0
def tw12925528130090650799:=0
def tw4176941772681576153:=0
def tw1748414874634133442:=0
def tw2808806501495524789:=0
def tw3028244778725234441:=0
def tw7566203016094293410:=0
def tw9156592529150198189:=0
def tw4433106670596386951:=0
def tw2921558951910588237:=0
def tw17417376779164906816:=0
def tw11544920056268026894:=0
def tw16290849170086841982:=0
def tw18032644086809447854:=0
def tw11906052852045237291:=0
def tw12200132056280560457:=0
def tw12457895676830364873:=0
def tw10548255379494614823:=0
def tw2799603389195552690:=0
def tw3382379913627554433:=0
def tw6168155464503023396:=0
def tw7853424378570593774:=0
def tw9406030058484117445:=0
def tw13472553210760455293:=0
def tw10425842700870744339:=0
def tw17314952175561670761:=0
def tw3440401561426793519:=0
def tw14795345083627557507:=0
def tw10912290930513353905:=0
def tw6878864149365300403:=0
def tw14781819644804280853:=0
def tw16858292571863417490:=0
def tw14189699963701501227:=0
def tw15173154716939345826:=0
def tw10073226271063421242:=0
def tw8724576305835552066:=0
def tw8750599629580576996:=0
def tw314020557813281664:=0
def tw650497490202690363:=0
def tw596828030596329237:=0
def tw966029037885216900:=0
def tw5487885055126424260:=0
def tw8646705640248524185:=0
def tw15278632300737038958:=0
def tw10218178507330108433:=0
def tw1603044580720441237:=0
def tw13514946631109816031:=0
def tw11532014498419411654:=0
def tw15405527083744453981:=0
def tw17000415020396974661:=0
def tw318462119533572903:=0
def tw16108224544632658247:=0
def tw9809513652906758700:=0
def tw4275010521036917052:=0
def tw13633358996493530708:=0
def tw9775808236244817903:=0
def tw17513650210582915546:=0
def tw1228963695256167286:=0
def tw524343195937335739:=0
def tw15192190315457722100:=0
def tw3727263425692784748:=0
def tw17110485142266844018:=0
def tw3784440375391662262:=0
def tw10094373525398892188:=0
def tw15085012605354717832:=0
def tw11656796299385042771:=0
def tw8554548807193836125:=0
def tw14942959587372874782:=0
def tw12489246059525741868:=0
def tw17099102262427772632:=0
def tw5332908554891872840:=0
def tw17576671839637049948:=0
def tw9238487925287522141:=0
def tw12321936741535083623:=0
def tw11164441071606656056:=0
def tw16690548103046923881:=0
def tw15123527156913031597:=0
def tw10338010682338950160:=0
def tw136995002706530123:=0
def tw13518126495933781149:=0
def tw15498488397194274862:=0
def tw13465552558027651633:=0
def tw15740815650711501414:=0
def tw15513932030571123965:=0
def tw2242265615158946688:=0
def tw1392416410242844881:=0
def tw18310294217921608510:=0
def tw8809586572892892687:=0
def tw15073195686269163140:=0
def tw8329115187936422024:=0
def tw12703745306324909730:=0
def tw10846161678284479884:=0
def tw15799200474763299899:=0
def tw15193686947705423862:=0
def tw5611830360719652139:=0
def tw13381142497653845672:=0
def tw3303654988825820181:=0
def tw16608635450711352484:=0
def tw4045795650838587839:=0
def tw8748852691705828161:=0
def tw17887392302409024617:=0
def tw7072450044989812335:=0
def tw15842293352578264959:=0
def tw11021399059505119825:=0
def tw7088528406799363829:=0
def tw7830751728652980153:=0
def tw14541374853622057038:=0
def tw17781602066785089828:=0
def tw13804803235967946757:=0
def tw8043122684819751884:=0
def tw12538627328910580630:=0
def tw17786239938290390178:=0
def tw1589726752879028293:=0
def tw5610528969289612211:=0
def tw7235744607579255327:=0
def tw4317326473180319256:=0
def tw805337255524303182:=0
def tw3612578444831814997:=0
def tw9904586847619194433:=0
def tw8358067271523546132:=0
def tw4692281608119331950:=0
def tw18185843150056499390:=0
def tw15729535834446758823:=0
def tw7625077727814955824:=0
def tw11957674941918190678:=0
def tw16632099112964175004:=0
def tw6481406131543574528:=0
def tw14673741495803971841:=0
def tw2599739018043554294:=0
def tw6481583852036115777:=0
def tw8081625903236793929:=0
def tw13452490661017313498:=0
def tw11787276612760688028:=0
def tw11677411864403162553:=0
def tw8471739626708599973:=0
def tw7785153574339597045:=0
def tw3741528124555325377:=0
def tw11667425984656172101:=0
def tw15739642508798796236:=0
def tw3665382501411602080:=0
def tw6447238457141017634:=0
def tw1326512579964848097:=0
def tw12909362807458732259:=0
def tw12075207810185188573:=0
def tw1789838077252692462:=0
def tw9683893032884996897:=0
def tw11681775518887761767:=0
def tw252762153000646234:=0
def tw4336185375912759696:=0
def tw10288867963153349586:=0
def tw3414287943906912065:=0
def tw8380989194769089482:=0
def tw15174693324737687780:=0
def tw3903442752387860093:=0
def tw12643421615741315935:=0
def tw79776447733320103:=0
def tw13023131937728772055:=0
def tw10157790308622974844:=0
def tw15074868972569718509:=0
def tw16329095665187303047:=0
def tw15455080253137869079:=0
def tw16096565805239463910:=0
def tw10439436554052615491:=0
def tw17426047966162457950:=0
def tw13091944343538064574:=0
def tw4730387250761013401:=0
def tw7191788148682331595:=0
def tw8454589497982802114:=0
def tw1275422095686375010:=0
def tw14577861986736405193:=0
def tw1647937828185305341:=0
def tw14104224382270037800:=0
def tw11872300615176520375:=0
def tw11220975684599060019:=0
def tw7813555073022985499:=0
def tw15054547276541910442:=0
def tw18422131143504624506:=0
def tw17244361101773473756:=0
def tw6136871093810675821:=0
def tw16055601339488362515:=0
def tw9592374908106211002:=0
def tw1434409286789301020:=0
def tw9823936514043320340:=0
def tw17454481789974716828:=0
def tw9954255620063261882:=0
def tw15060247215397440727:=0
def tw362962216362667474:=0
def tw1799003937748239546:=0
def tw10336753532774214353:=0
def tw7397736884367398813:=0
def tw15770706060707537962:=0
def tw13803963753213528993:=0
def tw6155226993949916876:=0
def tw15966117556985556362:=0
def tw9268167876815694101:=0
def tw15465610607349108028:=0
def tw7336827760796389352:=0
def tw7166836712484745660:=0
def tw8917301659348238146:=0
def tw14357380316469378321:=0
def tw12178681525014071493:=0
def tw17550048803107804341:=0
def tw2223087060500409032:=0
def tw10218243578522763572:=0
def tw4605071285993991600:=0
def tw16552569949839926992:=0
def tw2742452794426329796:=0
def tw1933833432533266933:=0
def tw11523795413294415007:=0
def tw14005781031736906953:=0
def tw12555001008691637827:=0
def tw3117331449981704398:=0
def tw2380613522029805413:=0
def tw9397766252810197370:=0
def tw3125066066960337102:=0
def tw4689161928801100292:=0
def tw9201013182979853476:=0
def tw17250291962774248810:=0
def tw5149174811447018303:=0
def tw5785383622735575531:=0
def tw8885027954538582842:=0
def tw2430680035667189628:=0
def tw4611935726892052658:=0
def tw13122228776289289884:=0
def tw6417253111313620:=0
def tw10714562350778150930:=0
def tw996489606670050808:=0
def tw4285239318268198285:=0
def tw9970818686060457564:=0
def tw14897160875224730899:=0
def tw16411009477092109234:=0
def tw1932133060854981171:=0
def tw17153181808203945586:=0
def tw1394081581968920775:=0
def tw4241007145016865660:=0
def tw5078323595543262439:=0
def tw10042567900364993945:=0
def tw4193994435723577057:=0
def tw4313061396192775779:=0
def tw13605804030538893713:=0
def tw7311835060399016381:=0
def tw16422067170880718895:=0
def tw11871311540037351091:=0
def tw7110840430255277123:=0
def tw7241910856363064454:=0
def tw17496446836195410116:=0
def tw16695938651843663181:=0
def tw57815281974129209:=0
def tw4877958655418204993:=0
def tw6388045222514511762:=0
def tw6423655319127250269:=0
def tw6183899647016501991:=0
def tw10841601431942215643:=0
def tw10658003477522940895:=0
def tw8486271878742243496:=0
def tw18004100468916396109:=0
def tw8086115471542215428:=0
def tw7093296139921317410:=0
def tw2898759243072698857:=0
def tw4243374260391864284:=0
def tw18151751868684659317:=0
def tw1250716167468820142:=0
def tw13779408731147257863:=0
def tw10494479705940188339:=0
end PySem.W.Fast
open PySem PySem.W PyProof.Rows
set_option maxRecDepth 100000 in
set_option maxHeartbeats 0 in
theorem PySem.Challenge.cw_sinceply_k72_whole_pared_and_cut_holds : PySem.Challenge.rw_sinceply_k72_whole_pared_and_cut.Holds := by
 w_on;o_law;k_head;(case hw=>w_witness2)
 k_fill
 refine' Q.walk (l:=PySem.Challenge.rw_sinceply_k72_whole_pared_and_cut) rfl rfl (fun w h Y=>PySem.W.km_in_of Y) (fun w h Y=>PySem.W.km_tabs_of Y) (by decide) ?hC ?hKt (P.math _ _) ?noL ?fnS
 case noL=>intro w;rfl
 case fnS=>
  intro w mg fa h KX G hmg
  refine' Q.all_mk KX G hmg ?Gi ?Gj ?Gk ?Gm ?Gn ?Gp ?Gq ?Gr ?Gs ?Gu ?v8 ?v9 ?v_ ?wc ?we ?wg ?wj ?wk ?wo ?wu ?wz ?wA ?wB ?wC ?wD ?wF ?wG ?wH ?wI ?wJ ?wK ?wL ?wM ?wN ?wO ?wQ ?wR ?wU ?wV ?Gv ?Gw ?Gx ?Gy ?AA ?wW ?wX ?wY ?wZ ?w_ ?xg ?xh ?xj ?rU ?fJ ?Gz ?GA ?yP ?yQ ?gE ?GB ?fL ?GC ?yR ?GD ?GF ?tQ ?jm ?GG ?p5 ?tR ?GH ?gF
  case Gi|Gj|Gk|Gm|Gn|Gp|Gq|Gr|Gs|Gu|v8|v9|v_|wc|we|wg|wj|wk|wo|wu|wz|wA|wB|wC|wD|wF|wG|wH|wI|wJ|wK|wL|wM|wN|wO|wQ|wR|wU|wV=>refine' Br.aJ ?e ?l ?c ?k;(case e=>k_is);(case l=>k_is);(case c=>k_is);(case k=>k_is)
  case Gv|Gw|Gx|Gy|AA=>k_is
  case wW|wX|wY|wZ|w_|xg|xh|xj|rU=>refine' Br.aJ ?e ?l ?c ?k;(case e=>k_is);(case l=>k_is);(case c=>k_is);(case k=>k_is)
  case GA|yP|yQ|gE|GB|fL|GC|yR|GD|GF|tQ|jm|GG|p5|tR|GH|gF=>k_is
  case fJ|Gz=>rfl
 case hC=>intro w;exact ⟨by kernel_rfl,by kernel_rfl⟩
 case hKt=>intro w;kernel_rfl
end
